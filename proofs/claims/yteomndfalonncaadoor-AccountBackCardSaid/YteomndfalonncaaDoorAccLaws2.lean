/-
  The walk of layer 14's statement AccountBack, out of the contracts: it returns true, and changes nothing that was there. Over this seat's translation.
-/
import Derived.Test.YteomndfalonncaaDoorAccLaws
namespace Go.Proofs.YteomndfalonncaaDoor.Ac
open Go.ChangeShapes Go.WideShapes Go.ChangeAt Go.RowKit Go.Proofs.YteomndfalonncaaDoor.Mem Go.Proofs.YteomndfalonncaaDoor.Bt Go.Proofs.YteomndfalonncaaDoor.Wi Go.Proofs.YteomndfalonncaaDoor.Sha
open Go.Proofs.YteomndfalonncaaDoor.Tg (bytesOf bytesOf_length bytesOf_lt bytesOf_inj Rd Rd.below Parts parts_one arm_one tagD tagD_len tagOf_any refTag_any)
open Go.Proofs.YteomndfalonncaaDoor.Ep (H32 zh zh_ok Has h_len szH zH fitH allH)
set_option linter.unusedVariables false
set_option linter.unusedSimpArgs false

theorem read_at (b : List Nat) (n : Nat) (hnb : n = b.length) (p : Option Addr) (cap : Nat) (w : World) (hp : Rd w p b) (hn : p = none → b.length = 0 ∧ cap = 0) (hl : b.length ≤ 1000000) (hlt : AllLt 256 b) :
    Calls Tryd.prog 10 #[.slice p n cap] w fun e w' => e = .returned (.tuple #[.agg (acs (rdA b).1).toArray, .int .i64 ((rdA b).2 : Int)]) ∧ Below w.heap.size w w' := by
  subst hnb
  exact (aread_any b p cap w hp hn hl hlt).mono fun e w' h => ⟨h.ret, h.bel⟩
set_option maxHeartbeats 4000000 in
set_option maxRecDepth 100000 in
theorem back_long (a b : Acct) (l : List Nat) (p : Option Addr) (cap : Nat) (w : World) (ka : a.Ok) (kb : b.Ok) (hp : Rd w p l) (hn : p = none → l.length = 0 ∧ cap = 0) (hlt : AllLt 256 l) (hk : w.rangeAt 1 0 (u32s ks)) (hk2 : w.rangeAt 0 0 (u32s ks)) (hl : 300 < a.nm.size ∨ 300 < b.nm.size ∨ 300 < l.length) :
    Calls Tryd.prog 4 #[.agg (acs a).toArray, .agg (acs b).toArray, .slice p l.length cap] w fun e w' => e = .returned (.bool true) ∧ Below w.heap.size w w' := by
  have hk1 : 1 < w.heap.size := range_lt hk (by simp [u32s, ks])
  have HKW : Hid (∀ w', Below w.heap.size w w' → w'.rangeAt 1 0 (u32s ks)) := Lib.hid fun w' hb => range_block hk (hb.block _ hk1)
  have hk3 : 0 < w.heap.size := range_lt hk2 (by simp [u32s, ks])
  have HKW2 : Hid (∀ w', Below w.heap.size w w' → w'.rangeAt 0 0 (u32s ks)) := Lib.hid fun w' hb => range_block hk2 (hb.block _ hk3)
  clear hk hk1 hk2 hk3
  have CA := Lib.hid (fun w0 h1 h2 => awake_any w0 h1 h2)
  have c0 : (acs a)[0]? = some (.string a.nm) := rfl
  have c1 : (acs b)[0]? = some (.string b.nm) := rfl
  have HP := Lib.hid hp
  obtain ⟨s, hs⟩ : ∃ s, s = a.nm := ⟨_, rfl⟩
  obtain ⟨t, ht⟩ : ∃ t, t = b.nm := ⟨_, rfl⟩
  rw [← hs] at c0
  rw [← ht] at c1
  have C0 := Lib.hid c0; have C1 := Lib.hid c1
  clear c0 c1
  rw [← hs, ← ht] at hl
  clear hs ht ka kb hp hn hlt
  by_cases h0 : 300 < s.size
  · skip
    have ds : decide ((300 : Int) < (s.size : Int)) = true := decide_eq_true (by omega)
    have ds' : decide (300 < s.size) = true := decide_eq_true (by omega)
    clear hl h0
    go_enter Tryd.func4, Tryd.ntmps4
    go_wp2_with (first
      | ((with_reducible refine at_slot 3 ?_); (refine arm_box (o := ⟨some 3, _, _, _, _, _⟩) rfl _ _ rfl (acs a) rfl ?_); intro X v1 Xe hv1 nv1)
      | ((with_reducible refine at_slot 4 ?_); (refine arm_box (o := ⟨some 4, _, _, _, _, _⟩) rfl _ _ rfl (acs b) rfl ?_); intro Y v2 Ye hv2 nv2))
    have hbv1 := nv1.below
    have rrv1 : Row v1 X 25 (acs a) := hv1
    have hbv2 := nv2.below
    have rrv2 : Row v2 Y 25 (acs b) := hv2
    clear hv1 nv1 Xe
    have bel3 : Below w.heap.size w v1 := hbv1
    clear hbv1
    clear hv2 nv2 Ye
    have rX4 : Row v2 X 25 (acs a) := rrv1.old hbv2
    have bel4 : Below w.heap.size w v2 := below_step bel3 bel3.size hbv2
    clear rrv1 bel3 hbv2
    have rdl := HP.out.below bel4
    refine (CA.out _ (HKW.out _ bel4) (HKW2.out _ bel4)).mono ?_
    rintro e y5 ⟨rfl, hB⟩
    have rX6 : Row y5 X 25 (acs a) := rX4.old hB
    have rY6 : Row y5 Y 25 (acs b) := rrv2.old hB
    have dl6 : Rd y5 (p) (l) := rdl.below hB
    have bel6 : Below w.heap.size w y5 := below_step bel4 bel4.size hB
    clear rX4 rrv2 rdl bel4 hB
    have hcX := rX6.cell C0.out
    have hcY := rY6.cell C1.out
    go_wp2_with fail
    go_ret
    exact ⟨rfl, bel6⟩
  by_cases h1 : 300 < t.size
  · skip
    have ds : decide ((300 : Int) < (s.size : Int)) = false := decide_eq_false (by omega)
    have ds' : decide (300 < s.size) = false := decide_eq_false (by omega)
    have dt : decide ((300 : Int) < (t.size : Int)) = true := decide_eq_true (by omega)
    have dt' : decide (300 < t.size) = true := decide_eq_true (by omega)
    clear hl h0 h1
    go_enter Tryd.func4, Tryd.ntmps4
    go_wp2_with (first
      | ((with_reducible refine at_slot 3 ?_); (refine arm_box (o := ⟨some 3, _, _, _, _, _⟩) rfl _ _ rfl (acs a) rfl ?_); intro X v1 Xe hv1 nv1)
      | ((with_reducible refine at_slot 4 ?_); (refine arm_box (o := ⟨some 4, _, _, _, _, _⟩) rfl _ _ rfl (acs b) rfl ?_); intro Y v2 Ye hv2 nv2))
    have hbv1 := nv1.below
    have rrv1 : Row v1 X 25 (acs a) := hv1
    have hbv2 := nv2.below
    have rrv2 : Row v2 Y 25 (acs b) := hv2
    clear hv1 nv1 Xe
    have bel3 : Below w.heap.size w v1 := hbv1
    clear hbv1
    clear hv2 nv2 Ye
    have rX4 : Row v2 X 25 (acs a) := rrv1.old hbv2
    have bel4 : Below w.heap.size w v2 := below_step bel3 bel3.size hbv2
    clear rrv1 bel3 hbv2
    have rdl := HP.out.below bel4
    refine (CA.out _ (HKW.out _ bel4) (HKW2.out _ bel4)).mono ?_
    rintro e y5 ⟨rfl, hB⟩
    have rX6 : Row y5 X 25 (acs a) := rX4.old hB
    have rY6 : Row y5 Y 25 (acs b) := rrv2.old hB
    have dl6 : Rd y5 (p) (l) := rdl.below hB
    have bel6 : Below w.heap.size w y5 := below_step bel4 bel4.size hB
    clear rX4 rrv2 rdl bel4 hB
    have hcX := rX6.cell C0.out
    have hcY := rY6.cell C1.out
    go_wp2_with fail
    go_ret
    exact ⟨rfl, bel6⟩
  have ds : decide ((300 : Int) < (s.size : Int)) = false := decide_eq_false (by omega)
  have ds' : decide (300 < s.size) = false := decide_eq_false (by omega)
  have dt : decide ((300 : Int) < (t.size : Int)) = false := decide_eq_false (by omega)
  have dt' : decide (300 < t.size) = false := decide_eq_false (by omega)
  have dl : decide ((300 : Int) < (l.length : Int)) = true := decide_eq_true (by omega)
  have dl' : decide (300 < l.length) = true := decide_eq_true (by omega)
  clear hl h0 h1
  go_enter Tryd.func4, Tryd.ntmps4
  go_wp2_with (first
    | ((with_reducible refine at_slot 3 ?_); (refine arm_box (o := ⟨some 3, _, _, _, _, _⟩) rfl _ _ rfl (acs a) rfl ?_); intro X v1 Xe hv1 nv1)
    | ((with_reducible refine at_slot 4 ?_); (refine arm_box (o := ⟨some 4, _, _, _, _, _⟩) rfl _ _ rfl (acs b) rfl ?_); intro Y v2 Ye hv2 nv2))
  have hbv1 := nv1.below
  have rrv1 : Row v1 X 25 (acs a) := hv1
  have hbv2 := nv2.below
  have rrv2 : Row v2 Y 25 (acs b) := hv2
  clear hv1 nv1 Xe
  have bel3 : Below w.heap.size w v1 := hbv1
  clear hbv1
  clear hv2 nv2 Ye
  have rX4 : Row v2 X 25 (acs a) := rrv1.old hbv2
  have bel4 : Below w.heap.size w v2 := below_step bel3 bel3.size hbv2
  clear rrv1 bel3 hbv2
  have rdl := HP.out.below bel4
  refine (CA.out _ (HKW.out _ bel4) (HKW2.out _ bel4)).mono ?_
  rintro e y5 ⟨rfl, hB⟩
  have rX6 : Row y5 X 25 (acs a) := rX4.old hB
  have rY6 : Row y5 Y 25 (acs b) := rrv2.old hB
  have dl6 : Rd y5 (p) (l) := rdl.below hB
  have bel6 : Below w.heap.size w y5 := below_step bel4 bel4.size hB
  clear rX4 rrv2 rdl bel4 hB
  have hcX := rX6.cell C0.out
  have hcY := rY6.cell C1.out
  go_wp2_with fail
  go_ret
  exact ⟨rfl, bel6⟩
set_option maxHeartbeats 4000000 in
set_option maxRecDepth 100000 in
theorem back_grr (a b : Acct) (l : List Nat) (p : Option Addr) (cap : Nat) (w : World) (ka : a.Ok) (kb : b.Ok) (hp : Rd w p l) (hn : p = none → l.length = 0 ∧ cap = 0) (hlt : AllLt 256 l) (hk : w.rangeAt 1 0 (u32s ks)) (hk2 : w.rangeAt 0 0 (u32s ks)) (hla : a.nm.size ≤ 300) (hlb : b.nm.size ≤ 300) (hll : l.length ≤ 300) (hg : (rdA l).2 = 0) (ra : NRt a.nm) (rb : NRt b.nm) :
    Calls Tryd.prog 4 #[.agg (acs a).toArray, .agg (acs b).toArray, .slice p l.length cap] w fun e w' => e = .returned (.bool true) ∧ Below w.heap.size w w' := by
  have hk1 : 1 < w.heap.size := range_lt hk (by simp [u32s, ks])
  have HKW : Hid (∀ w', Below w.heap.size w w' → w'.rangeAt 1 0 (u32s ks)) := Lib.hid fun w' hb => range_block hk (hb.block _ hk1)
  have hk3 : 0 < w.heap.size := range_lt hk2 (by simp [u32s, ks])
  have HKW2 : Hid (∀ w', Below w.heap.size w w' → w'.rangeAt 0 0 (u32s ks)) := Lib.hid fun w' hb => range_block hk2 (hb.block _ hk3)
  clear hk hk1 hk2 hk3
  have CA := Lib.hid (fun w0 h1 h2 => awake_any w0 h1 h2)
  have c0 : (acs a)[0]? = some (.string a.nm) := rfl
  have c1 : (acs b)[0]? = some (.string b.nm) := rfl
  have HP := Lib.hid hp
  have CL := Lib.hid (fun w0 (h : Rd w0 p l) => read_at l l.length rfl p cap w0 h hn (by omega) hlt)
  obtain ⟨u, hu⟩ : ∃ u, u = (rdA l).1 := ⟨_, rfl⟩
  rw [hg, ← hu] at CL
  have hbk := bytes_back hlt hg
  rw [← hu] at hbk
  have hku : u.Ok := by rw [hu]; exact rdA_ok hlt
  have hul : ansB u = l := by unfold ansB; rw [if_pos hbk.2]; exact hbk.1
  have hue : ansE u = 0 := by unfold ansE; rw [if_pos hbk.2]
  have CU := Lib.hid (fun w0 => bytes_at u w0 hku l.length (by rw [hul]) 0 (by rw [hue]; rfl))
  rw [hul] at CU
  have CSL := Lib.hid (fun (q : Option Addr) (c : Nat) (w0 : World) (h1 : Rd w0 q l) (h2 : Rd w0 p l) => same_at l l q p c cap l.length l.length rfl rfl w0 h1 h2 (by omega) (by omega))
  rw [decide_eq_true rfl] at CSL
  clear hbk hku hul hue
  have hba : ansB a = accB a := by unfold ansB; rw [if_pos ra]
  have hea : ansE a = 0 := by unfold ansE; rw [if_pos ra]
  have h2a := accB_len a
  have h8a := ra.2.1; have h1a := ra.1
  obtain ⟨m, hm⟩ : ∃ m, (accB a).length = m := ⟨_, rfl⟩
  have Ca := Lib.hid (fun w0 => bytes_at a w0 ka m (by rw [hba]; exact hm) 0 (by rw [hea]; rfl))
  rw [hba] at Ca
  have Car := Lib.hid (fun w0 => aright_any a w0)
  rw [decide_eq_true ra] at Car
  have hbb : ansB b = accB b := by unfold ansB; rw [if_pos rb]
  have heb : ansE b = 0 := by unfold ansE; rw [if_pos rb]
  have h2b := accB_len b
  have h8b := rb.2.1; have h1b := rb.1
  obtain ⟨n, hn2⟩ : ∃ n, (accB b).length = n := ⟨_, rfl⟩
  have Cb := Lib.hid (fun w0 => bytes_at b w0 kb n (by rw [hbb]; exact hn2) 0 (by rw [heb]; rfl))
  rw [hbb] at Cb
  have Cbr := Lib.hid (fun w0 => aright_any b w0)
  rw [decide_eq_true rb] at Cbr
  have hlta : AllLt 256 (accB a) := accB_lt (by omega)
  have hab : decide (accB a = accB b) = true ↔ a = b := by
    rw [decide_eq_true_iff]
    exact ⟨acc_inj ka kb ra rb, fun h => by rw [h]⟩
  have CD := Lib.hid (fun (q : Option Addr) (c : Nat) (w0 : World) (h1 : Rd w0 q (accB a)) (h2 : q = none → (accB a).length = 0 ∧ c = 0) => read_at (accB a) m hm.symm q c w0 h1 h2 (by omega) hlta)
  rw [acc_back ka ra] at CD
  have CSH := Lib.hid (fun (q : Option Addr) (c : Nat) (w0 : World) (h1 : Rd w0 q ((accB a).take (m - 1))) (h2 : q = none → ((accB a).take (m - 1)).length = 0 ∧ c = 0) => read_at ((accB a).take (m - 1)) (m - 1) (by rw [List.length_take]; omega) q c w0 h1 h2 (by rw [List.length_take]; omega) (fun x hx => hlta x (List.mem_of_mem_take hx)))
  have hsh := acc_short ka ra
  rw [hm] at hsh
  rw [hsh] at CSH
  have CLO := Lib.hid (fun (q : Option Addr) (c : Nat) (w0 : World) (h1 : Rd w0 q (accB a ++ [0])) (h2 : q = none → (accB a ++ [0]).length = 0 ∧ c = 0) => read_at (accB a ++ [0]) (m + 1) (by rw [List.length_append, hm]; rfl) q c w0 h1 h2 (by rw [List.length_append, hm]; simp; omega) (fun x hx => by
    rcases List.mem_append.1 hx with h | h
    · exact hlta x h
    · rw [List.mem_singleton.1 h]; decide))
  rw [acc_long ka ra] at CLO
  have CSS := Lib.hid (fun (q r : Option Addr) (c d : Nat) (w0 : World) (h1 : Rd w0 q (accB a)) (h2 : Rd w0 r (accB b)) => same_at (accB a) (accB b) q r c d m n hm.symm hn2.symm w0 h1 h2 (by omega) (by omega))
  obtain ⟨v, hv⟩ : ∃ v : Bool, v = decide (accB a = accB b) := ⟨_, rfl⟩
  rw [← hv] at CSS hab
  have HV := Lib.hid hab
  have HML := Lib.hid hm
  have hm14 : 14 ≤ m := by omega
  have hm21 : m ≤ 21 := by omega
  have hmi : (m : Int) - 1 = ((m - 1 : Nat) : Int) := by omega
  obtain ⟨xs, hxs⟩ : ∃ x, x = accB a := ⟨_, rfl⟩
  obtain ⟨ys, hys⟩ : ∃ x, x = accB b := ⟨_, rfl⟩
  rw [← hxs] at Ca CD CSH CLO CSS HML
  rw [← hys] at Cb CSS
  have HNI := Lib.hid hmi
  clear hlta hab hsh hv hxs hys hmi
  obtain ⟨s, hs⟩ : ∃ s, s = a.nm := ⟨_, rfl⟩
  obtain ⟨t, ht⟩ : ∃ t, t = b.nm := ⟨_, rfl⟩
  rw [← hs] at c0
  rw [← ht] at c1
  have C0 := Lib.hid c0; have C1 := Lib.hid c1
  clear c0 c1
  rw [← hs] at hla
  rw [← ht] at hlb
  have ds : decide ((300 : Int) < (s.size : Int)) = false := decide_eq_false (by omega)
  have ds' : decide (300 < s.size) = false := decide_eq_false (by omega)
  have dt : decide ((300 : Int) < (t.size : Int)) = false := decide_eq_false (by omega)
  have dt' : decide (300 < t.size) = false := decide_eq_false (by omega)
  have dl : decide ((300 : Int) < (l.length : Int)) = false := decide_eq_false (by omega)
  have dl' : decide (300 < l.length) = false := decide_eq_false (by omega)
  clear hs ht ka kb hp hn hlt hla hlb hll hg ra rb hu hba hea h2a h8a h1a hm hbb heb h2b h8b h1b hn2
  go_enter Tryd.func4, Tryd.ntmps4
  go_wp2_with (first
    | ((with_reducible refine at_slot 3 ?_); (refine arm_box (o := ⟨some 3, _, _, _, _, _⟩) rfl _ _ rfl (acs a) rfl ?_); intro X v1 Xe hv1 nv1)
    | ((with_reducible refine at_slot 4 ?_); (refine arm_box (o := ⟨some 4, _, _, _, _, _⟩) rfl _ _ rfl (acs b) rfl ?_); intro Y v2 Ye hv2 nv2))
  have hbv1 := nv1.below
  have rrv1 : Row v1 X 25 (acs a) := hv1
  have hbv2 := nv2.below
  have rrv2 : Row v2 Y 25 (acs b) := hv2
  clear hv1 nv1 Xe
  have bel3 : Below w.heap.size w v1 := hbv1
  clear hbv1
  clear hv2 nv2 Ye
  have rX4 : Row v2 X 25 (acs a) := rrv1.old hbv2
  have bel4 : Below w.heap.size w v2 := below_step bel3 bel3.size hbv2
  clear rrv1 bel3 hbv2
  have rdl := HP.out.below bel4
  refine (CA.out _ (HKW.out _ bel4) (HKW2.out _ bel4)).mono ?_
  rintro e y5 ⟨rfl, hB⟩
  have rX6 : Row y5 X 25 (acs a) := rX4.old hB
  have rY6 : Row y5 Y 25 (acs b) := rrv2.old hB
  have dl6 : Rd y5 (p) (l) := rdl.below hB
  have bel6 : Below w.heap.size w y5 := below_step bel4 bel4.size hB
  clear rX4 rrv2 rdl bel4 hB
  have hcX := rX6.cell C0.out
  have hcY := rY6.cell C1.out
  go_wp2_with fail
  refine (CL.out _ dl6).mono ?_
  rintro e y7 ⟨rfl, hB⟩
  have rX8 : Row y7 X 25 (acs a) := rX6.old hB
  have rY8 : Row y7 Y 25 (acs b) := rY6.old hB
  have dl8 : Rd y7 (p) (l) := dl6.below hB
  have bel8 : Below w.heap.size w y7 := below_step bel6 bel6.size hB
  clear rX6 rY6 dl6 bel6 hB
  clear hcX hcY
  go_wp2_with (first
    | ((with_reducible refine at_slot 7 ?_); (refine arm_alloc (o := ⟨some 7, _, _, _, _, _⟩) rfl _ rfl (acs za) z_acc ?_); intro U v9a Ue hUa nU)
    | ((with_reducible refine arm_store (o := ⟨none, _, _, _, _, _⟩) rfl _ _ _ rfl U 0 rfl (acs u) rfl _ _ hUa (fitA u) (acs_one u) (sz_acc u) ?_); intro v9 hUb oU sU)
    | ((with_reducible refine at_slot 46 ?_); (refine arm_load (o := ⟨some 46, _, _, _, _, _⟩) rfl _ _ rfl U 0 rfl (acs u) ((Has.refl _).range (hUb.congr (allA u))) (sz_acc u) ?_)))
  have lU : y7.heap.size ≤ U := by have := Ue.out; omega
  have bU : Below y7.heap.size y7 v9 := below_only nU.below oU lU nU.below.size
  have rrU : Row v9 U 25 (acs u) := hUb.congr (allA u)
  clear hUa hUb nU oU sU Ue lU
  have rX10 : Row v9 X 25 (acs a) := rX8.old bU
  have rY10 : Row v9 Y 25 (acs b) := rY8.old bU
  have dl10 : Rd v9 (p) (l) := dl8.below bU
  have bel10 : Below w.heap.size w v9 := below_step bel8 bel8.size bU
  clear rX8 rY8 dl8 bel8 bU
  refine (CU.out _).mono ?_
  rintro e y11 ⟨⟨qu, cu, rfl, rdu, hnu⟩, hB⟩
  clear hnu
  have rX12 : Row y11 X 25 (acs a) := rX10.old hB
  have rY12 : Row y11 Y 25 (acs b) := rY10.old hB
  have rU12 : Row y11 U 25 (acs u) := rrU.old hB
  have dl12 : Rd y11 (p) (l) := dl10.below hB
  have bel12 : Below w.heap.size w y11 := below_step bel10 bel10.size hB
  clear rX10 rY10 rrU dl10 bel10 hB
  go_wp2_with fail
  refine (CSL.out qu cu _ rdu dl12).mono ?_
  rintro e y13 ⟨rfl, hB⟩
  have rX14 : Row y13 X 25 (acs a) := rX12.old hB
  have rY14 : Row y13 Y 25 (acs b) := rY12.old hB
  have rU14 : Row y13 U 25 (acs u) := rU12.old hB
  have dl14 : Rd y13 (p) (l) := dl12.below hB
  have du14 : Rd y13 (qu) (l) := rdu.below hB
  have bel14 : Below w.heap.size w y13 := below_step bel12 bel12.size hB
  clear rX12 rY12 rU12 dl12 rdu bel12 hB
  clear du14
  go_wp2_with (first
    | ((with_reducible refine at_slot 59 ?_); (refine arm_load (o := ⟨some 59, _, _, _, _, _⟩) rfl _ _ rfl X 0 rfl (acs a) ((Has.refl _).range rX14) (sz_acc a) ?_)))
  clear rU14
  refine (Ca.out _).mono ?_
  rintro e y15 ⟨⟨qx, cx, rfl, rdx, hnx⟩, hB⟩
  have rX16 : Row y15 X 25 (acs a) := rX14.old hB
  have rY16 : Row y15 Y 25 (acs b) := rY14.old hB
  have dl16 : Rd y15 (p) (l) := dl14.below hB
  have bel16 : Below w.heap.size w y15 := below_step bel14 bel14.size hB
  clear rX14 rY14 dl14 bel14 hB
  have HNX := Lib.hid hnx; clear hnx
  go_wp2_with (first
    | ((with_reducible refine at_slot 64 ?_); (refine arm_load (o := ⟨some 64, _, _, _, _, _⟩) rfl _ _ rfl Y 0 rfl (acs b) ((Has.refl _).range rY16) (sz_acc b) ?_)))
  refine (Cb.out _).mono ?_
  rintro e y17 ⟨⟨qy, cy, rfl, rdy, hny⟩, hB⟩
  clear hny
  have rX18 : Row y17 X 25 (acs a) := rX16.old hB
  have rY18 : Row y17 Y 25 (acs b) := rY16.old hB
  have dl18 : Rd y17 (p) (l) := dl16.below hB
  have dx18 : Rd y17 (qx) (xs) := rdx.below hB
  have bel18 : Below w.heap.size w y17 := below_step bel16 bel16.size hB
  clear rX16 rY16 dl16 rdx bel16 hB
  go_wp2_with fail
  refine (CD.out qx cx _ dx18 HNX.out.1).mono ?_
  rintro e y19 ⟨rfl, hB⟩
  have rX20 : Row y19 X 25 (acs a) := rX18.old hB
  have rY20 : Row y19 Y 25 (acs b) := rY18.old hB
  have dl20 : Rd y19 (p) (l) := dl18.below hB
  have dx20 : Rd y19 (qx) (xs) := dx18.below hB
  have dy20 : Rd y19 (qy) (ys) := rdy.below hB
  have bel20 : Below w.heap.size w y19 := below_step bel18 bel18.size hB
  clear rX18 rY18 dl18 dx18 rdy bel18 hB
  go_wp2_with (first
    | ((with_reducible refine at_slot 15 ?_); (refine arm_alloc (o := ⟨some 15, _, _, _, _, _⟩) rfl _ rfl (acs za) z_acc ?_); intro C v21a Ce hCa nC)
    | ((with_reducible refine arm_store (o := ⟨none, _, _, _, _, _⟩) rfl _ _ _ rfl C 0 rfl (acs a) rfl _ _ hCa (fitA a) (acs_one a) (sz_acc a) ?_); intro v21 hCb oC sC)
    | ((with_reducible refine at_slot 96 ?_); (refine arm_headS (o := ⟨some 96, _, _, _, _, _⟩) rfl _ _ _ rfl 5 (by kernel_rfl) (by kernel_rfl) qx m cx rfl .i64 _ rfl (m - 1) HNI.out (by have := HNX.out.2; have := HML.out; omega) ?_)))
  have lC : y19.heap.size ≤ C := by have := Ce.out; omega
  have bC : Below y19.heap.size y19 v21 := below_only nC.below oC lC nC.below.size
  have rrC : Row v21 C 25 (acs a) := hCb.congr (allA a)
  clear hCa hCb nC oC sC Ce lC
  have rX22 : Row v21 X 25 (acs a) := rX20.old bC
  have rY22 : Row v21 Y 25 (acs b) := rY20.old bC
  have dl22 : Rd v21 (p) (l) := dl20.below bC
  have dx22 : Rd v21 (qx) (xs) := dx20.below bC
  have dy22 : Rd v21 (qy) (ys) := dy20.below bC
  have bel22 : Below w.heap.size w v21 := below_step bel20 bel20.size bC
  clear rX20 rY20 dl20 dx20 dy20 bel20 bC
  refine (CSH.out qx cx _ (Rd_take dx22 (m - 1)) (fun e => by have := HNX.out.1 e; have := HML.out; omega)).mono ?_
  rintro e y23 ⟨rfl, hB⟩
  have rX24 : Row y23 X 25 (acs a) := rX22.old hB
  have rY24 : Row y23 Y 25 (acs b) := rY22.old hB
  have rC24 : Row y23 C 25 (acs a) := rrC.old hB
  have dl24 : Rd y23 (p) (l) := dl22.below hB
  have dx24 : Rd y23 (qx) (xs) := dx22.below hB
  have dy24 : Rd y23 (qy) (ys) := dy22.below hB
  have bel24 : Below w.heap.size w y23 := below_step bel22 bel22.size hB
  clear rX22 rY22 rrC dl22 dx22 dy22 bel22 hB
  have HNX2 : Hid (qx = none → m = 0 ∧ cx = 0) := Lib.hid fun e => by have := HNX.out.1 e; have := HML.out; omega
  go_wp2_with (first
    | ((with_reducible refine at_slot 17 ?_); (refine arm_alloc (o := ⟨some 17, _, _, _, _, _⟩) rfl _ rfl (acs za) z_acc ?_); intro E wEa Ee hEa nE)
    | ((with_reducible refine arm_store (o := ⟨none, _, _, _, _, _⟩) rfl _ _ _ rfl E 0 rfl (acs za) rfl _ _ hEa (fitA za) (acs_one za) (sz_acc za) ?_); intro wE hEb oE sE)
    | ((with_reducible refine at_slot 101 ?_); (refine arm_buildSlice (o := ⟨some 101, _, _, _, _, _⟩) rfl 0 _ rfl [] #[] (by simp) bs0 ?_); intro b1 wf hb1 hR1 hN1)
    | ((with_reducible refine at_slot 103 ?_); (refine arm_append2 (o := ⟨some 103, _, _, _, _, _⟩) rfl _ _ rfl wE.heap.size (some ⟨b1, 0, none⟩) 0 0 [] rfl rfl (own_new hR1 (by have := hb1.out; omega)) qx m cx xs rfl HML.out.symm HNX2.out ((dx24.below (below_only nE.below oE (by have := Ee.out; omega) nE.below.size)).below hN1.below).at_ (by rw [HML.out, List.length_nil]; omega) (by have := hN1.below.size; omega) ?_); intro p2 cap2 wg hO2 hS2)
    | ((with_reducible refine at_slot 104 ?_); (refine arm_buildSlice (o := ⟨some 104, _, _, _, _, _⟩) rfl 1 _ rfl [.int .u8 0] #[(0, .int .u8 0)] (by simp [Act.eval]) (bs1 _) ?_); intro b3 wh hb3 hR3 hN3)
    | ((with_reducible refine at_slot 105 ?_); (refine arm_append2 (o := ⟨some 105, _, _, _, _, _⟩) rfl _ _ rfl wE.heap.size p2 _ cap2 ([] ++ xs) (by rw [List.nil_append, HML.out]; try omega) rfl (hO2.below hN3.below) (some ⟨b3, 0, none⟩) 1 1 [0] rfl rfl (fun e => by cases e) (Tg.own_row (bs := [0]) hR3 (Nat.le_refl b3) (by simp)).bytes (by rw [List.nil_append, HML.out, List.length_singleton]; omega) (by have := hN1.below.size; have := hS2.size; have := hN3.below.size; omega) ?_); intro p4 cap4 wi hO4 hS4))
  have bE : Below y23.heap.size y23 wE := below_only nE.below oE (by have := Ee.out; omega) nE.below.size
  have rrE : Row wE E 25 (acs za) := hEb.congr (allA za)
  have bI : Below wE.heap.size wE wi := step_bel (step_bel hN1.below hN1.below.size (own_new hR1 (by have := hb1.out; omega)) hS2 |>.trans (hN3.below.mono (by have := hN1.below.size; have := hS2.size; omega))) (by have := hN1.below.size; have := hS2.size; have := hN3.below.size; omega) (hO2.below hN3.below) hS4
  rw [List.nil_append] at hO4
  have rdz : Rd wi p4 (xs ++ [0]) := hO4.rd
  have HNZ := Lib.hid (own_none hO4)
  clear hEa hEb nE oE sE Ee hb1 hR1 hN1 hO2 hS2 hb3 hR3 hN3 hO4 hS4
  have rX26 : Row wE X 25 (acs a) := rX24.old bE
  have rY26 : Row wE Y 25 (acs b) := rY24.old bE
  have rC26 : Row wE C 25 (acs a) := rC24.old bE
  have dl26 : Rd wE (p) (l) := dl24.below bE
  have dx26 : Rd wE (qx) (xs) := dx24.below bE
  have dy26 : Rd wE (qy) (ys) := dy24.below bE
  have bel26 : Below w.heap.size w wE := below_step bel24 bel24.size bE
  clear rX24 rY24 rC24 dl24 dx24 dy24 bel24 bE
  have rX27 : Row wi X 25 (acs a) := rX26.old bI
  have rY27 : Row wi Y 25 (acs b) := rY26.old bI
  have rC27 : Row wi C 25 (acs a) := rC26.old bI
  have rE27 : Row wi E 25 (acs za) := rrE.old bI
  have dl27 : Rd wi (p) (l) := dl26.below bI
  have dx27 : Rd wi (qx) (xs) := dx26.below bI
  have dy27 : Rd wi (qy) (ys) := dy26.below bI
  have bel27 : Below w.heap.size w wi := below_step bel26 bel26.size bI
  clear rX26 rY26 rC26 rrE dl26 dx26 dy26 bel26 bI
  refine (CLO.out p4 cap4 _ rdz HNZ.out).mono ?_
  rintro e y28 ⟨rfl, hB⟩
  clear rdz
  have rX29 : Row y28 X 25 (acs a) := rX27.old hB
  have rY29 : Row y28 Y 25 (acs b) := rY27.old hB
  have rC29 : Row y28 C 25 (acs a) := rC27.old hB
  have rE29 : Row y28 E 25 (acs za) := rE27.old hB
  have dl29 : Rd y28 (p) (l) := dl27.below hB
  have dx29 : Rd y28 (qx) (xs) := dx27.below hB
  have dy29 : Rd y28 (qy) (ys) := dy27.below hB
  have bel29 : Below w.heap.size w y28 := below_step bel27 bel27.size hB
  clear rX27 rY27 rC27 rE27 dl27 dx27 dy27 bel27 hB
  go_wp2_with (first
    | ((with_reducible refine at_slot 19 ?_); (refine arm_alloc (o := ⟨some 19, _, _, _, _, _⟩) rfl _ rfl (acs za) z_acc ?_); intro G v30a Ge hGa nG)
    | ((with_reducible refine arm_store (o := ⟨none, _, _, _, _, _⟩) rfl _ _ _ rfl G 0 rfl (acs za) rfl _ _ hGa (fitA za) (acs_one za) (sz_acc za) ?_); intro v30 hGb oG sG))
  have lG : y28.heap.size ≤ G := by have := Ge.out; omega
  have bG : Below y28.heap.size y28 v30 := below_only nG.below oG lG nG.below.size
  have rrG : Row v30 G 25 (acs za) := hGb.congr (allA za)
  clear hGa hGb nG oG sG Ge lG
  have rX31 : Row v30 X 25 (acs a) := rX29.old bG
  have rY31 : Row v30 Y 25 (acs b) := rY29.old bG
  have rC31 : Row v30 C 25 (acs a) := rC29.old bG
  have rE31 : Row v30 E 25 (acs za) := rE29.old bG
  have dl31 : Rd v30 (p) (l) := dl29.below bG
  have dx31 : Rd v30 (qx) (xs) := dx29.below bG
  have dy31 : Rd v30 (qy) (ys) := dy29.below bG
  have bel31 : Below w.heap.size w v30 := below_step bel29 bel29.size bG
  clear rX29 rY29 rC29 rE29 dl29 dx29 dy29 bel29 bG
  refine wp_region_held (S := fun w' => Below v30.heap.size v30 w') (by kernel_rfl) ?_
  change wpAnyH _ _ _ _ _ _ _ _ v30.drew
  have hS : Below v30.heap.size v30 v30.drew := (Below.refl _ _).drew
  generalize v30.drew = yz at hS ⊢
  refine h_take 0 (.slice qx m cx) rfl 109 rfl (by kernel_rfl) (by kernel_rfl) (by kernel_rfl) (by kernel_rfl) (fun _ _ _ h => h) (fun w' _ => by kernel_rfl) hS ?_
  simp only [Act.put, List.setIfInBounds_toArray, List.set_cons_zero, List.set_cons_succ]
  refine h_take 1 (.slice qy n cy) rfl 110 rfl (by kernel_rfl) (by kernel_rfl) (by kernel_rfl) (by kernel_rfl) (fun _ _ _ h => h) (fun w' _ => by kernel_rfl) hS ?_
  simp only [Act.put, List.setIfInBounds_toArray, List.set_cons_zero, List.set_cons_succ]
  refine h_take 3 (.agg (acs a).toArray) rfl 112 rfl (by kernel_rfl) (by kernel_rfl) (by kernel_rfl) (by kernel_rfl) (fun _ _ _ h => h) (fun w' hw => run_op_load _ _ rfl X 0 rfl (acs a) ((Has.refl _).range (rX31.old hw)) (sz_acc a)) hS ?_
  simp only [Act.put, List.setIfInBounds_toArray, List.set_cons_zero, List.set_cons_succ]
  refine h_take 4 (.agg (acs b).toArray) rfl 113 rfl (by kernel_rfl) (by kernel_rfl) (by kernel_rfl) (by kernel_rfl) (fun _ _ _ h => h) (fun w' hw => run_op_load _ _ rfl Y 0 rfl (acs b) ((Has.refl _).range (rY31.old hw)) (sz_acc b)) hS ?_
  simp only [Act.put, List.setIfInBounds_toArray, List.set_cons_zero, List.set_cons_succ]
  refine h_take 5 (.bool v) rfl 114 rfl (by kernel_rfl) (by kernel_rfl) (by kernel_rfl) (by kernel_rfl) (fun _ _ _ h => h) (fun w' _ => run_op_eqlA _ _ _ rfl a b rfl rfl v HV.out w') hS ?_
  simp only [Act.put, List.setIfInBounds_toArray, List.set_cons_zero, List.set_cons_succ]
  refine h_one (i := 2) (by kernel_rfl) (o_call rfl 111 rfl (by kernel_rfl) (run_op_call 14 _ _ rfl #[.slice qx m cx, .slice qy n cy] (by simp only [List.map_toArray, List.map_cons, List.map_nil]; rfl) Tryd.func14 (by kernel_rfl) (by kernel_rfl) _) (CSS.out qx qy cx cy _ (dx31.below hS) (dy31.below hS)) ?_)
  rintro e yz1 ⟨rfl, hB⟩
  have hS1 : Below v30.heap.size v30 yz1 := below_step hS hS.size hB
  clear hB hS
  refine ⟨_, rfl, hS1, ?_⟩
  simp only [Act.put, List.setIfInBounds_toArray, List.set_cons_zero, List.set_cons_succ]
  refine h_take 6 (.bool true) rfl 115 rfl (by kernel_rfl) (by kernel_rfl) (by kernel_rfl) (by kernel_rfl) (fun _ _ _ h => h) (fun w' _ => run_op_eqlBB _ _ _ rfl v v rfl rfl true (beq_self_eq_true v) w') hS1 ?_
  simp only [Act.put, List.setIfInBounds_toArray, List.set_cons_zero, List.set_cons_succ]
  refine h_take 7 (.bool true) rfl 116 rfl (by kernel_rfl) (by kernel_rfl) (by kernel_rfl) (by kernel_rfl) (fun _ _ _ h => h) (fun w' _ => by kernel_rfl) hS1 ?_
  simp only [Act.put, List.setIfInBounds_toArray, List.set_cons_zero, List.set_cons_succ]
  refine h_take 8 (.agg (acs a).toArray) rfl 117 rfl (by kernel_rfl) (by kernel_rfl) (by kernel_rfl) (by kernel_rfl) (fun _ _ _ h => h) (fun w' hw => run_op_load _ _ rfl C 0 rfl (acs a) ((Has.refl _).range (rC31.old hw)) (sz_acc a)) hS1 ?_
  simp only [Act.put, List.setIfInBounds_toArray, List.set_cons_zero, List.set_cons_succ]
  refine h_take 9 (.agg (acs a).toArray) rfl 118 rfl (by kernel_rfl) (by kernel_rfl) (by kernel_rfl) (by kernel_rfl) (fun _ _ _ h => h) (fun w' hw => run_op_load _ _ rfl X 0 rfl (acs a) ((Has.refl _).range (rX31.old hw)) (sz_acc a)) hS1 ?_
  simp only [Act.put, List.setIfInBounds_toArray, List.set_cons_zero, List.set_cons_succ]
  refine h_take 10 (.bool true) rfl 119 rfl (by kernel_rfl) (by kernel_rfl) (by kernel_rfl) (by kernel_rfl) (fun _ _ _ h => h) (fun w' _ => run_op_eqlA _ _ _ rfl a a rfl rfl true (by simp) w') hS1 ?_
  simp only [Act.put, List.setIfInBounds_toArray, List.set_cons_zero, List.set_cons_succ]
  refine h_take 11 (.bool true) rfl 120 rfl (by kernel_rfl) (by kernel_rfl) (by kernel_rfl) (by kernel_rfl) (fun _ _ _ h => h) (fun w' _ => by kernel_rfl) hS1 ?_
  simp only [Act.put, List.setIfInBounds_toArray, List.set_cons_zero, List.set_cons_succ]
  refine h_take 12 (.bool true) rfl 121 rfl (by kernel_rfl) (by kernel_rfl) (by kernel_rfl) (by kernel_rfl) (fun _ _ _ h => h) (fun w' _ => by kernel_rfl) hS1 ?_
  simp only [Act.put, List.setIfInBounds_toArray, List.set_cons_zero, List.set_cons_succ]
  refine h_take 13 (.int .i64 0) rfl 122 rfl (by kernel_rfl) (by kernel_rfl) (by kernel_rfl) (by kernel_rfl) (fun _ _ _ h => h) (fun w' _ => by kernel_rfl) hS1 ?_
  simp only [Act.put, List.setIfInBounds_toArray, List.set_cons_zero, List.set_cons_succ]
  refine h_take 14 (.bool true) rfl 123 rfl (by kernel_rfl) (by kernel_rfl) (by kernel_rfl) (by kernel_rfl) (fun _ _ _ h => h) (fun w' _ => by kernel_rfl) hS1 ?_
  simp only [Act.put, List.setIfInBounds_toArray, List.set_cons_zero, List.set_cons_succ]
  refine h_take 15 (.bool true) rfl 124 rfl (by kernel_rfl) (by kernel_rfl) (by kernel_rfl) (by kernel_rfl) (fun _ _ _ h => h) (fun w' _ => by kernel_rfl) hS1 ?_
  simp only [Act.put, List.setIfInBounds_toArray, List.set_cons_zero, List.set_cons_succ]
  refine h_take 16 (.bool true) rfl 125 rfl (by kernel_rfl) (by kernel_rfl) (by kernel_rfl) (by kernel_rfl) (fun _ _ _ h => h) (fun w' _ => by kernel_rfl) hS1 ?_
  simp only [Act.put, List.setIfInBounds_toArray, List.set_cons_zero, List.set_cons_succ]
  refine h_take 17 (.int .i64 3) rfl 126 rfl (by kernel_rfl) (by kernel_rfl) (by kernel_rfl) (by kernel_rfl) (fun _ _ _ h => h) (fun w' _ => by kernel_rfl) hS1 ?_
  simp only [Act.put, List.setIfInBounds_toArray, List.set_cons_zero, List.set_cons_succ]
  refine h_take 18 (.bool true) rfl 127 rfl (by kernel_rfl) (by kernel_rfl) (by kernel_rfl) (by kernel_rfl) (fun _ _ _ h => h) (fun w' _ => by kernel_rfl) hS1 ?_
  simp only [Act.put, List.setIfInBounds_toArray, List.set_cons_zero, List.set_cons_succ]
  refine h_take 19 (.bool true) rfl 128 rfl (by kernel_rfl) (by kernel_rfl) (by kernel_rfl) (by kernel_rfl) (fun _ _ _ h => h) (fun w' _ => by kernel_rfl) hS1 ?_
  simp only [Act.put, List.setIfInBounds_toArray, List.set_cons_zero, List.set_cons_succ]
  refine h_take 20 (.bool true) rfl 129 rfl (by kernel_rfl) (by kernel_rfl) (by kernel_rfl) (by kernel_rfl) (fun _ _ _ h => h) (fun w' _ => by kernel_rfl) hS1 ?_
  simp only [Act.put, List.setIfInBounds_toArray, List.set_cons_zero, List.set_cons_succ]
  refine h_take 21 (.int .i64 4) rfl 130 rfl (by kernel_rfl) (by kernel_rfl) (by kernel_rfl) (by kernel_rfl) (fun _ _ _ h => h) (fun w' _ => by kernel_rfl) hS1 ?_
  simp only [Act.put, List.setIfInBounds_toArray, List.set_cons_zero, List.set_cons_succ]
  refine h_take 22 (.bool true) rfl 131 rfl (by kernel_rfl) (by kernel_rfl) (by kernel_rfl) (by kernel_rfl) (fun _ _ _ h => h) (fun w' _ => by kernel_rfl) hS1 ?_
  simp only [Act.put, List.setIfInBounds_toArray, List.set_cons_zero, List.set_cons_succ]
  refine h_take 23 (.bool true) rfl 132 rfl (by kernel_rfl) (by kernel_rfl) (by kernel_rfl) (by kernel_rfl) (fun _ _ _ h => h) (fun w' _ => by kernel_rfl) hS1 ?_
  simp only [Act.put, List.setIfInBounds_toArray, List.set_cons_zero, List.set_cons_succ]
  refine h_take 24 (.bool true) rfl 6 rfl (by kernel_rfl) (by kernel_rfl) (by kernel_rfl) (by kernel_rfl) (fun _ _ _ h => h) (fun w' _ => by kernel_rfl) hS1 ?_
  simp only [Act.put, List.setIfInBounds_toArray, List.set_cons_zero, List.set_cons_succ]
  refine wpAnyH_done (by kernel_rfl) ?_ _
  have belE := below_step bel31 bel31.size hS1
  go_wp2_with fail
  go_ret
  exact ⟨rfl, belE⟩
set_option maxHeartbeats 4000000 in
set_option maxRecDepth 100000 in
theorem back_grx (a b : Acct) (l : List Nat) (p : Option Addr) (cap : Nat) (w : World) (ka : a.Ok) (kb : b.Ok) (hp : Rd w p l) (hn : p = none → l.length = 0 ∧ cap = 0) (hlt : AllLt 256 l) (hk : w.rangeAt 1 0 (u32s ks)) (hk2 : w.rangeAt 0 0 (u32s ks)) (hla : a.nm.size ≤ 300) (hlb : b.nm.size ≤ 300) (hll : l.length ≤ 300) (hg : (rdA l).2 = 0) (ra : NRt a.nm) (rb : ¬ NRt b.nm) :
    Calls Tryd.prog 4 #[.agg (acs a).toArray, .agg (acs b).toArray, .slice p l.length cap] w fun e w' => e = .returned (.bool true) ∧ Below w.heap.size w w' := by
  have hk1 : 1 < w.heap.size := range_lt hk (by simp [u32s, ks])
  have HKW : Hid (∀ w', Below w.heap.size w w' → w'.rangeAt 1 0 (u32s ks)) := Lib.hid fun w' hb => range_block hk (hb.block _ hk1)
  have hk3 : 0 < w.heap.size := range_lt hk2 (by simp [u32s, ks])
  have HKW2 : Hid (∀ w', Below w.heap.size w w' → w'.rangeAt 0 0 (u32s ks)) := Lib.hid fun w' hb => range_block hk2 (hb.block _ hk3)
  clear hk hk1 hk2 hk3
  have CA := Lib.hid (fun w0 h1 h2 => awake_any w0 h1 h2)
  have c0 : (acs a)[0]? = some (.string a.nm) := rfl
  have c1 : (acs b)[0]? = some (.string b.nm) := rfl
  have HP := Lib.hid hp
  have CL := Lib.hid (fun w0 (h : Rd w0 p l) => read_at l l.length rfl p cap w0 h hn (by omega) hlt)
  obtain ⟨u, hu⟩ : ∃ u, u = (rdA l).1 := ⟨_, rfl⟩
  rw [hg, ← hu] at CL
  have hbk := bytes_back hlt hg
  rw [← hu] at hbk
  have hku : u.Ok := by rw [hu]; exact rdA_ok hlt
  have hul : ansB u = l := by unfold ansB; rw [if_pos hbk.2]; exact hbk.1
  have hue : ansE u = 0 := by unfold ansE; rw [if_pos hbk.2]
  have CU := Lib.hid (fun w0 => bytes_at u w0 hku l.length (by rw [hul]) 0 (by rw [hue]; rfl))
  rw [hul] at CU
  have CSL := Lib.hid (fun (q : Option Addr) (c : Nat) (w0 : World) (h1 : Rd w0 q l) (h2 : Rd w0 p l) => same_at l l q p c cap l.length l.length rfl rfl w0 h1 h2 (by omega) (by omega))
  rw [decide_eq_true rfl] at CSL
  clear hbk hku hul hue
  have hba : ansB a = accB a := by unfold ansB; rw [if_pos ra]
  have hea : ansE a = 0 := by unfold ansE; rw [if_pos ra]
  have h2a := accB_len a
  have h8a := ra.2.1; have h1a := ra.1
  obtain ⟨m, hm⟩ : ∃ m, (accB a).length = m := ⟨_, rfl⟩
  have Ca := Lib.hid (fun w0 => bytes_at a w0 ka m (by rw [hba]; exact hm) 0 (by rw [hea]; rfl))
  rw [hba] at Ca
  have Car := Lib.hid (fun w0 => aright_any a w0)
  rw [decide_eq_true ra] at Car
  have hbb : ansB b = [] := by unfold ansB; rw [if_neg rb]
  have heb : ansE b = 1 := by unfold ansE; rw [if_neg rb]
  have Cb := Lib.hid (fun w0 => bytes_at b w0 kb 0 (by rw [hbb]; rfl) 1 (by rw [heb]; rfl))
  rw [hbb] at Cb
  have Cbr := Lib.hid (fun w0 => aright_any b w0)
  rw [decide_eq_false rb] at Cbr
  obtain ⟨s, hs⟩ : ∃ s, s = a.nm := ⟨_, rfl⟩
  obtain ⟨t, ht⟩ : ∃ t, t = b.nm := ⟨_, rfl⟩
  rw [← hs] at c0
  rw [← ht] at c1
  have C0 := Lib.hid c0; have C1 := Lib.hid c1
  clear c0 c1
  rw [← hs] at hla
  rw [← ht] at hlb
  have ds : decide ((300 : Int) < (s.size : Int)) = false := decide_eq_false (by omega)
  have ds' : decide (300 < s.size) = false := decide_eq_false (by omega)
  have dt : decide ((300 : Int) < (t.size : Int)) = false := decide_eq_false (by omega)
  have dt' : decide (300 < t.size) = false := decide_eq_false (by omega)
  have dl : decide ((300 : Int) < (l.length : Int)) = false := decide_eq_false (by omega)
  have dl' : decide (300 < l.length) = false := decide_eq_false (by omega)
  clear hs ht ka kb hp hn hlt hla hlb hll hg ra rb hu hba hea h2a h8a h1a hm hbb heb
  go_enter Tryd.func4, Tryd.ntmps4
  go_wp2_with (first
    | ((with_reducible refine at_slot 3 ?_); (refine arm_box (o := ⟨some 3, _, _, _, _, _⟩) rfl _ _ rfl (acs a) rfl ?_); intro X v1 Xe hv1 nv1)
    | ((with_reducible refine at_slot 4 ?_); (refine arm_box (o := ⟨some 4, _, _, _, _, _⟩) rfl _ _ rfl (acs b) rfl ?_); intro Y v2 Ye hv2 nv2))
  have hbv1 := nv1.below
  have rrv1 : Row v1 X 25 (acs a) := hv1
  have hbv2 := nv2.below
  have rrv2 : Row v2 Y 25 (acs b) := hv2
  clear hv1 nv1 Xe
  have bel3 : Below w.heap.size w v1 := hbv1
  clear hbv1
  clear hv2 nv2 Ye
  have rX4 : Row v2 X 25 (acs a) := rrv1.old hbv2
  have bel4 : Below w.heap.size w v2 := below_step bel3 bel3.size hbv2
  clear rrv1 bel3 hbv2
  have rdl := HP.out.below bel4
  refine (CA.out _ (HKW.out _ bel4) (HKW2.out _ bel4)).mono ?_
  rintro e y5 ⟨rfl, hB⟩
  have rX6 : Row y5 X 25 (acs a) := rX4.old hB
  have rY6 : Row y5 Y 25 (acs b) := rrv2.old hB
  have dl6 : Rd y5 (p) (l) := rdl.below hB
  have bel6 : Below w.heap.size w y5 := below_step bel4 bel4.size hB
  clear rX4 rrv2 rdl bel4 hB
  have hcX := rX6.cell C0.out
  have hcY := rY6.cell C1.out
  go_wp2_with fail
  refine (CL.out _ dl6).mono ?_
  rintro e y7 ⟨rfl, hB⟩
  have rX8 : Row y7 X 25 (acs a) := rX6.old hB
  have rY8 : Row y7 Y 25 (acs b) := rY6.old hB
  have dl8 : Rd y7 (p) (l) := dl6.below hB
  have bel8 : Below w.heap.size w y7 := below_step bel6 bel6.size hB
  clear rX6 rY6 dl6 bel6 hB
  clear hcX hcY
  go_wp2_with (first
    | ((with_reducible refine at_slot 7 ?_); (refine arm_alloc (o := ⟨some 7, _, _, _, _, _⟩) rfl _ rfl (acs za) z_acc ?_); intro U v9a Ue hUa nU)
    | ((with_reducible refine arm_store (o := ⟨none, _, _, _, _, _⟩) rfl _ _ _ rfl U 0 rfl (acs u) rfl _ _ hUa (fitA u) (acs_one u) (sz_acc u) ?_); intro v9 hUb oU sU)
    | ((with_reducible refine at_slot 46 ?_); (refine arm_load (o := ⟨some 46, _, _, _, _, _⟩) rfl _ _ rfl U 0 rfl (acs u) ((Has.refl _).range (hUb.congr (allA u))) (sz_acc u) ?_)))
  have lU : y7.heap.size ≤ U := by have := Ue.out; omega
  have bU : Below y7.heap.size y7 v9 := below_only nU.below oU lU nU.below.size
  have rrU : Row v9 U 25 (acs u) := hUb.congr (allA u)
  clear hUa hUb nU oU sU Ue lU
  have rX10 : Row v9 X 25 (acs a) := rX8.old bU
  have rY10 : Row v9 Y 25 (acs b) := rY8.old bU
  have dl10 : Rd v9 (p) (l) := dl8.below bU
  have bel10 : Below w.heap.size w v9 := below_step bel8 bel8.size bU
  clear rX8 rY8 dl8 bel8 bU
  refine (CU.out _).mono ?_
  rintro e y11 ⟨⟨qu, cu, rfl, rdu, hnu⟩, hB⟩
  clear hnu
  have rX12 : Row y11 X 25 (acs a) := rX10.old hB
  have rY12 : Row y11 Y 25 (acs b) := rY10.old hB
  have rU12 : Row y11 U 25 (acs u) := rrU.old hB
  have dl12 : Rd y11 (p) (l) := dl10.below hB
  have bel12 : Below w.heap.size w y11 := below_step bel10 bel10.size hB
  clear rX10 rY10 rrU dl10 bel10 hB
  go_wp2_with fail
  refine (CSL.out qu cu _ rdu dl12).mono ?_
  rintro e y13 ⟨rfl, hB⟩
  have rX14 : Row y13 X 25 (acs a) := rX12.old hB
  have rY14 : Row y13 Y 25 (acs b) := rY12.old hB
  have rU14 : Row y13 U 25 (acs u) := rU12.old hB
  have dl14 : Rd y13 (p) (l) := dl12.below hB
  have du14 : Rd y13 (qu) (l) := rdu.below hB
  have bel14 : Below w.heap.size w y13 := below_step bel12 bel12.size hB
  clear rX12 rY12 rU12 dl12 rdu bel12 hB
  clear du14
  go_wp2_with (first
    | ((with_reducible refine at_slot 59 ?_); (refine arm_load (o := ⟨some 59, _, _, _, _, _⟩) rfl _ _ rfl X 0 rfl (acs a) ((Has.refl _).range rX14) (sz_acc a) ?_)))
  clear rU14
  refine (Ca.out _).mono ?_
  rintro e y15 ⟨⟨qx, cx, rfl, rdx, hnx⟩, hB⟩
  clear hnx
  have rX16 : Row y15 X 25 (acs a) := rX14.old hB
  have rY16 : Row y15 Y 25 (acs b) := rY14.old hB
  have dl16 : Rd y15 (p) (l) := dl14.below hB
  have bel16 : Below w.heap.size w y15 := below_step bel14 bel14.size hB
  clear rX14 rY14 dl14 bel14 hB
  go_wp2_with (first
    | ((with_reducible refine at_slot 64 ?_); (refine arm_load (o := ⟨some 64, _, _, _, _, _⟩) rfl _ _ rfl Y 0 rfl (acs b) ((Has.refl _).range rY16) (sz_acc b) ?_)))
  refine (Cb.out _).mono ?_
  rintro e y17 ⟨⟨qy, cy, rfl, rdy, hny⟩, hB⟩
  clear hny
  have rX18 : Row y17 X 25 (acs a) := rX16.old hB
  have rY18 : Row y17 Y 25 (acs b) := rY16.old hB
  have dl18 : Rd y17 (p) (l) := dl16.below hB
  have dx18 : Rd y17 (qx) (accB a) := rdx.below hB
  have bel18 : Below w.heap.size w y17 := below_step bel16 bel16.size hB
  clear rX16 rY16 dl16 rdx bel16 hB
  clear dx18
  clear rdy
  go_wp2_with (first
    | ((with_reducible refine at_slot 76 ?_); (refine arm_load (o := ⟨some 76, _, _, _, _, _⟩) rfl _ _ rfl X 0 rfl (acs a) ((Has.refl _).range rX18) (sz_acc a) ?_)))
  refine (Car.out _).mono ?_
  rintro e y19 ⟨rfl, hB⟩
  have rX20 : Row y19 X 25 (acs a) := rX18.old hB
  have rY20 : Row y19 Y 25 (acs b) := rY18.old hB
  have dl20 : Rd y19 (p) (l) := dl18.below hB
  have bel20 : Below w.heap.size w y19 := below_step bel18 bel18.size hB
  clear rX18 rY18 dl18 bel18 hB
  go_wp2_with (first
    | ((with_reducible refine at_slot 78 ?_); (refine arm_want (.bool true) 78 rfl (by kernel_rfl) (run_op_eqlBB _ _ _ rfl true true rfl rfl true rfl _) ?_))
    | ((with_reducible refine at_slot 82 ?_); (refine arm_want (.agg (acs b).toArray) 82 rfl (by kernel_rfl) (run_op_load _ _ rfl Y 0 rfl (acs b) ((Has.refl _).range rY20) (sz_acc b)) ?_)))
  refine (Cbr.out _).mono ?_
  rintro e y21 ⟨rfl, hB⟩
  have rX22 : Row y21 X 25 (acs a) := rX20.old hB
  have rY22 : Row y21 Y 25 (acs b) := rY20.old hB
  have dl22 : Rd y21 (p) (l) := dl20.below hB
  have bel22 : Below w.heap.size w y21 := below_step bel20 bel20.size hB
  clear rX20 rY20 dl20 bel20 hB
  go_wp2_with (first
    | ((with_reducible refine at_slot 84 ?_); (refine arm_want (.bool true) 84 rfl (by kernel_rfl) (run_op_eqlBB _ _ _ rfl false false rfl rfl true rfl _) ?_)))
  go_ret
  exact ⟨rfl, bel22⟩
set_option maxHeartbeats 4000000 in
set_option maxRecDepth 100000 in
theorem back_gxr (a b : Acct) (l : List Nat) (p : Option Addr) (cap : Nat) (w : World) (ka : a.Ok) (kb : b.Ok) (hp : Rd w p l) (hn : p = none → l.length = 0 ∧ cap = 0) (hlt : AllLt 256 l) (hk : w.rangeAt 1 0 (u32s ks)) (hk2 : w.rangeAt 0 0 (u32s ks)) (hla : a.nm.size ≤ 300) (hlb : b.nm.size ≤ 300) (hll : l.length ≤ 300) (hg : (rdA l).2 = 0) (ra : ¬ NRt a.nm) (rb : NRt b.nm) :
    Calls Tryd.prog 4 #[.agg (acs a).toArray, .agg (acs b).toArray, .slice p l.length cap] w fun e w' => e = .returned (.bool true) ∧ Below w.heap.size w w' := by
  have hk1 : 1 < w.heap.size := range_lt hk (by simp [u32s, ks])
  have HKW : Hid (∀ w', Below w.heap.size w w' → w'.rangeAt 1 0 (u32s ks)) := Lib.hid fun w' hb => range_block hk (hb.block _ hk1)
  have hk3 : 0 < w.heap.size := range_lt hk2 (by simp [u32s, ks])
  have HKW2 : Hid (∀ w', Below w.heap.size w w' → w'.rangeAt 0 0 (u32s ks)) := Lib.hid fun w' hb => range_block hk2 (hb.block _ hk3)
  clear hk hk1 hk2 hk3
  have CA := Lib.hid (fun w0 h1 h2 => awake_any w0 h1 h2)
  have c0 : (acs a)[0]? = some (.string a.nm) := rfl
  have c1 : (acs b)[0]? = some (.string b.nm) := rfl
  have HP := Lib.hid hp
  have CL := Lib.hid (fun w0 (h : Rd w0 p l) => read_at l l.length rfl p cap w0 h hn (by omega) hlt)
  obtain ⟨u, hu⟩ : ∃ u, u = (rdA l).1 := ⟨_, rfl⟩
  rw [hg, ← hu] at CL
  have hbk := bytes_back hlt hg
  rw [← hu] at hbk
  have hku : u.Ok := by rw [hu]; exact rdA_ok hlt
  have hul : ansB u = l := by unfold ansB; rw [if_pos hbk.2]; exact hbk.1
  have hue : ansE u = 0 := by unfold ansE; rw [if_pos hbk.2]
  have CU := Lib.hid (fun w0 => bytes_at u w0 hku l.length (by rw [hul]) 0 (by rw [hue]; rfl))
  rw [hul] at CU
  have CSL := Lib.hid (fun (q : Option Addr) (c : Nat) (w0 : World) (h1 : Rd w0 q l) (h2 : Rd w0 p l) => same_at l l q p c cap l.length l.length rfl rfl w0 h1 h2 (by omega) (by omega))
  rw [decide_eq_true rfl] at CSL
  clear hbk hku hul hue
  have hba : ansB a = [] := by unfold ansB; rw [if_neg ra]
  have hea : ansE a = 1 := by unfold ansE; rw [if_neg ra]
  have Ca := Lib.hid (fun w0 => bytes_at a w0 ka 0 (by rw [hba]; rfl) 1 (by rw [hea]; rfl))
  rw [hba] at Ca
  have Car := Lib.hid (fun w0 => aright_any a w0)
  rw [decide_eq_false ra] at Car
  have hbb : ansB b = accB b := by unfold ansB; rw [if_pos rb]
  have heb : ansE b = 0 := by unfold ansE; rw [if_pos rb]
  have h2b := accB_len b
  have h8b := rb.2.1; have h1b := rb.1
  obtain ⟨n, hn2⟩ : ∃ n, (accB b).length = n := ⟨_, rfl⟩
  have Cb := Lib.hid (fun w0 => bytes_at b w0 kb n (by rw [hbb]; exact hn2) 0 (by rw [heb]; rfl))
  rw [hbb] at Cb
  have Cbr := Lib.hid (fun w0 => aright_any b w0)
  rw [decide_eq_true rb] at Cbr
  obtain ⟨s, hs⟩ : ∃ s, s = a.nm := ⟨_, rfl⟩
  obtain ⟨t, ht⟩ : ∃ t, t = b.nm := ⟨_, rfl⟩
  rw [← hs] at c0
  rw [← ht] at c1
  have C0 := Lib.hid c0; have C1 := Lib.hid c1
  clear c0 c1
  rw [← hs] at hla
  rw [← ht] at hlb
  have ds : decide ((300 : Int) < (s.size : Int)) = false := decide_eq_false (by omega)
  have ds' : decide (300 < s.size) = false := decide_eq_false (by omega)
  have dt : decide ((300 : Int) < (t.size : Int)) = false := decide_eq_false (by omega)
  have dt' : decide (300 < t.size) = false := decide_eq_false (by omega)
  have dl : decide ((300 : Int) < (l.length : Int)) = false := decide_eq_false (by omega)
  have dl' : decide (300 < l.length) = false := decide_eq_false (by omega)
  clear hs ht ka kb hp hn hlt hla hlb hll hg ra rb hu hba hea hbb heb h2b h8b h1b hn2
  go_enter Tryd.func4, Tryd.ntmps4
  go_wp2_with (first
    | ((with_reducible refine at_slot 3 ?_); (refine arm_box (o := ⟨some 3, _, _, _, _, _⟩) rfl _ _ rfl (acs a) rfl ?_); intro X v1 Xe hv1 nv1)
    | ((with_reducible refine at_slot 4 ?_); (refine arm_box (o := ⟨some 4, _, _, _, _, _⟩) rfl _ _ rfl (acs b) rfl ?_); intro Y v2 Ye hv2 nv2))
  have hbv1 := nv1.below
  have rrv1 : Row v1 X 25 (acs a) := hv1
  have hbv2 := nv2.below
  have rrv2 : Row v2 Y 25 (acs b) := hv2
  clear hv1 nv1 Xe
  have bel3 : Below w.heap.size w v1 := hbv1
  clear hbv1
  clear hv2 nv2 Ye
  have rX4 : Row v2 X 25 (acs a) := rrv1.old hbv2
  have bel4 : Below w.heap.size w v2 := below_step bel3 bel3.size hbv2
  clear rrv1 bel3 hbv2
  have rdl := HP.out.below bel4
  refine (CA.out _ (HKW.out _ bel4) (HKW2.out _ bel4)).mono ?_
  rintro e y5 ⟨rfl, hB⟩
  have rX6 : Row y5 X 25 (acs a) := rX4.old hB
  have rY6 : Row y5 Y 25 (acs b) := rrv2.old hB
  have dl6 : Rd y5 (p) (l) := rdl.below hB
  have bel6 : Below w.heap.size w y5 := below_step bel4 bel4.size hB
  clear rX4 rrv2 rdl bel4 hB
  have hcX := rX6.cell C0.out
  have hcY := rY6.cell C1.out
  go_wp2_with fail
  refine (CL.out _ dl6).mono ?_
  rintro e y7 ⟨rfl, hB⟩
  have rX8 : Row y7 X 25 (acs a) := rX6.old hB
  have rY8 : Row y7 Y 25 (acs b) := rY6.old hB
  have dl8 : Rd y7 (p) (l) := dl6.below hB
  have bel8 : Below w.heap.size w y7 := below_step bel6 bel6.size hB
  clear rX6 rY6 dl6 bel6 hB
  clear hcX hcY
  go_wp2_with (first
    | ((with_reducible refine at_slot 7 ?_); (refine arm_alloc (o := ⟨some 7, _, _, _, _, _⟩) rfl _ rfl (acs za) z_acc ?_); intro U v9a Ue hUa nU)
    | ((with_reducible refine arm_store (o := ⟨none, _, _, _, _, _⟩) rfl _ _ _ rfl U 0 rfl (acs u) rfl _ _ hUa (fitA u) (acs_one u) (sz_acc u) ?_); intro v9 hUb oU sU)
    | ((with_reducible refine at_slot 46 ?_); (refine arm_load (o := ⟨some 46, _, _, _, _, _⟩) rfl _ _ rfl U 0 rfl (acs u) ((Has.refl _).range (hUb.congr (allA u))) (sz_acc u) ?_)))
  have lU : y7.heap.size ≤ U := by have := Ue.out; omega
  have bU : Below y7.heap.size y7 v9 := below_only nU.below oU lU nU.below.size
  have rrU : Row v9 U 25 (acs u) := hUb.congr (allA u)
  clear hUa hUb nU oU sU Ue lU
  have rX10 : Row v9 X 25 (acs a) := rX8.old bU
  have rY10 : Row v9 Y 25 (acs b) := rY8.old bU
  have dl10 : Rd v9 (p) (l) := dl8.below bU
  have bel10 : Below w.heap.size w v9 := below_step bel8 bel8.size bU
  clear rX8 rY8 dl8 bel8 bU
  refine (CU.out _).mono ?_
  rintro e y11 ⟨⟨qu, cu, rfl, rdu, hnu⟩, hB⟩
  clear hnu
  have rX12 : Row y11 X 25 (acs a) := rX10.old hB
  have rY12 : Row y11 Y 25 (acs b) := rY10.old hB
  have rU12 : Row y11 U 25 (acs u) := rrU.old hB
  have dl12 : Rd y11 (p) (l) := dl10.below hB
  have bel12 : Below w.heap.size w y11 := below_step bel10 bel10.size hB
  clear rX10 rY10 rrU dl10 bel10 hB
  go_wp2_with fail
  refine (CSL.out qu cu _ rdu dl12).mono ?_
  rintro e y13 ⟨rfl, hB⟩
  have rX14 : Row y13 X 25 (acs a) := rX12.old hB
  have rY14 : Row y13 Y 25 (acs b) := rY12.old hB
  have rU14 : Row y13 U 25 (acs u) := rU12.old hB
  have dl14 : Rd y13 (p) (l) := dl12.below hB
  have du14 : Rd y13 (qu) (l) := rdu.below hB
  have bel14 : Below w.heap.size w y13 := below_step bel12 bel12.size hB
  clear rX12 rY12 rU12 dl12 rdu bel12 hB
  clear du14
  go_wp2_with (first
    | ((with_reducible refine at_slot 59 ?_); (refine arm_load (o := ⟨some 59, _, _, _, _, _⟩) rfl _ _ rfl X 0 rfl (acs a) ((Has.refl _).range rX14) (sz_acc a) ?_)))
  clear rU14
  refine (Ca.out _).mono ?_
  rintro e y15 ⟨⟨qx, cx, rfl, rdx, hnx⟩, hB⟩
  clear hnx
  have rX16 : Row y15 X 25 (acs a) := rX14.old hB
  have rY16 : Row y15 Y 25 (acs b) := rY14.old hB
  have dl16 : Rd y15 (p) (l) := dl14.below hB
  have bel16 : Below w.heap.size w y15 := below_step bel14 bel14.size hB
  clear rX14 rY14 dl14 bel14 hB
  go_wp2_with (first
    | ((with_reducible refine at_slot 64 ?_); (refine arm_load (o := ⟨some 64, _, _, _, _, _⟩) rfl _ _ rfl Y 0 rfl (acs b) ((Has.refl _).range rY16) (sz_acc b) ?_)))
  refine (Cb.out _).mono ?_
  rintro e y17 ⟨⟨qy, cy, rfl, rdy, hny⟩, hB⟩
  clear hny
  have rX18 : Row y17 X 25 (acs a) := rX16.old hB
  have rY18 : Row y17 Y 25 (acs b) := rY16.old hB
  have dl18 : Rd y17 (p) (l) := dl16.below hB
  have dx18 : Rd y17 (qx) ([]) := rdx.below hB
  have bel18 : Below w.heap.size w y17 := below_step bel16 bel16.size hB
  clear rX16 rY16 dl16 rdx bel16 hB
  clear dx18
  clear rdy
  go_wp2_with (first
    | ((with_reducible refine at_slot 76 ?_); (refine arm_load (o := ⟨some 76, _, _, _, _, _⟩) rfl _ _ rfl X 0 rfl (acs a) ((Has.refl _).range rX18) (sz_acc a) ?_)))
  refine (Car.out _).mono ?_
  rintro e y19 ⟨rfl, hB⟩
  have rX20 : Row y19 X 25 (acs a) := rX18.old hB
  have rY20 : Row y19 Y 25 (acs b) := rY18.old hB
  have dl20 : Rd y19 (p) (l) := dl18.below hB
  have bel20 : Below w.heap.size w y19 := below_step bel18 bel18.size hB
  clear rX18 rY18 dl18 bel18 hB
  go_wp2_with (first
    | ((with_reducible refine at_slot 78 ?_); (refine arm_want (.bool true) 78 rfl (by kernel_rfl) (run_op_eqlBB _ _ _ rfl false false rfl rfl true rfl _) ?_))
    | ((with_reducible refine at_slot 82 ?_); (refine arm_want (.agg (acs b).toArray) 82 rfl (by kernel_rfl) (run_op_load _ _ rfl Y 0 rfl (acs b) ((Has.refl _).range rY20) (sz_acc b)) ?_)))
  refine (Cbr.out _).mono ?_
  rintro e y21 ⟨rfl, hB⟩
  have rX22 : Row y21 X 25 (acs a) := rX20.old hB
  have rY22 : Row y21 Y 25 (acs b) := rY20.old hB
  have dl22 : Rd y21 (p) (l) := dl20.below hB
  have bel22 : Below w.heap.size w y21 := below_step bel20 bel20.size hB
  clear rX20 rY20 dl20 bel20 hB
  go_wp2_with (first
    | ((with_reducible refine at_slot 84 ?_); (refine arm_want (.bool true) 84 rfl (by kernel_rfl) (run_op_eqlBB _ _ _ rfl true true rfl rfl true rfl _) ?_)))
  go_ret
  exact ⟨rfl, bel22⟩
set_option maxHeartbeats 4000000 in
set_option maxRecDepth 100000 in
theorem back_gxx (a b : Acct) (l : List Nat) (p : Option Addr) (cap : Nat) (w : World) (ka : a.Ok) (kb : b.Ok) (hp : Rd w p l) (hn : p = none → l.length = 0 ∧ cap = 0) (hlt : AllLt 256 l) (hk : w.rangeAt 1 0 (u32s ks)) (hk2 : w.rangeAt 0 0 (u32s ks)) (hla : a.nm.size ≤ 300) (hlb : b.nm.size ≤ 300) (hll : l.length ≤ 300) (hg : (rdA l).2 = 0) (ra : ¬ NRt a.nm) (rb : ¬ NRt b.nm) :
    Calls Tryd.prog 4 #[.agg (acs a).toArray, .agg (acs b).toArray, .slice p l.length cap] w fun e w' => e = .returned (.bool true) ∧ Below w.heap.size w w' := by
  have hk1 : 1 < w.heap.size := range_lt hk (by simp [u32s, ks])
  have HKW : Hid (∀ w', Below w.heap.size w w' → w'.rangeAt 1 0 (u32s ks)) := Lib.hid fun w' hb => range_block hk (hb.block _ hk1)
  have hk3 : 0 < w.heap.size := range_lt hk2 (by simp [u32s, ks])
  have HKW2 : Hid (∀ w', Below w.heap.size w w' → w'.rangeAt 0 0 (u32s ks)) := Lib.hid fun w' hb => range_block hk2 (hb.block _ hk3)
  clear hk hk1 hk2 hk3
  have CA := Lib.hid (fun w0 h1 h2 => awake_any w0 h1 h2)
  have c0 : (acs a)[0]? = some (.string a.nm) := rfl
  have c1 : (acs b)[0]? = some (.string b.nm) := rfl
  have HP := Lib.hid hp
  have CL := Lib.hid (fun w0 (h : Rd w0 p l) => read_at l l.length rfl p cap w0 h hn (by omega) hlt)
  obtain ⟨u, hu⟩ : ∃ u, u = (rdA l).1 := ⟨_, rfl⟩
  rw [hg, ← hu] at CL
  have hbk := bytes_back hlt hg
  rw [← hu] at hbk
  have hku : u.Ok := by rw [hu]; exact rdA_ok hlt
  have hul : ansB u = l := by unfold ansB; rw [if_pos hbk.2]; exact hbk.1
  have hue : ansE u = 0 := by unfold ansE; rw [if_pos hbk.2]
  have CU := Lib.hid (fun w0 => bytes_at u w0 hku l.length (by rw [hul]) 0 (by rw [hue]; rfl))
  rw [hul] at CU
  have CSL := Lib.hid (fun (q : Option Addr) (c : Nat) (w0 : World) (h1 : Rd w0 q l) (h2 : Rd w0 p l) => same_at l l q p c cap l.length l.length rfl rfl w0 h1 h2 (by omega) (by omega))
  rw [decide_eq_true rfl] at CSL
  clear hbk hku hul hue
  have hba : ansB a = [] := by unfold ansB; rw [if_neg ra]
  have hea : ansE a = 1 := by unfold ansE; rw [if_neg ra]
  have Ca := Lib.hid (fun w0 => bytes_at a w0 ka 0 (by rw [hba]; rfl) 1 (by rw [hea]; rfl))
  rw [hba] at Ca
  have Car := Lib.hid (fun w0 => aright_any a w0)
  rw [decide_eq_false ra] at Car
  have hbb : ansB b = [] := by unfold ansB; rw [if_neg rb]
  have heb : ansE b = 1 := by unfold ansE; rw [if_neg rb]
  have Cb := Lib.hid (fun w0 => bytes_at b w0 kb 0 (by rw [hbb]; rfl) 1 (by rw [heb]; rfl))
  rw [hbb] at Cb
  have Cbr := Lib.hid (fun w0 => aright_any b w0)
  rw [decide_eq_false rb] at Cbr
  obtain ⟨s, hs⟩ : ∃ s, s = a.nm := ⟨_, rfl⟩
  obtain ⟨t, ht⟩ : ∃ t, t = b.nm := ⟨_, rfl⟩
  rw [← hs] at c0
  rw [← ht] at c1
  have C0 := Lib.hid c0; have C1 := Lib.hid c1
  clear c0 c1
  rw [← hs] at hla
  rw [← ht] at hlb
  have ds : decide ((300 : Int) < (s.size : Int)) = false := decide_eq_false (by omega)
  have ds' : decide (300 < s.size) = false := decide_eq_false (by omega)
  have dt : decide ((300 : Int) < (t.size : Int)) = false := decide_eq_false (by omega)
  have dt' : decide (300 < t.size) = false := decide_eq_false (by omega)
  have dl : decide ((300 : Int) < (l.length : Int)) = false := decide_eq_false (by omega)
  have dl' : decide (300 < l.length) = false := decide_eq_false (by omega)
  clear hs ht ka kb hp hn hlt hla hlb hll hg ra rb hu hba hea hbb heb
  go_enter Tryd.func4, Tryd.ntmps4
  go_wp2_with (first
    | ((with_reducible refine at_slot 3 ?_); (refine arm_box (o := ⟨some 3, _, _, _, _, _⟩) rfl _ _ rfl (acs a) rfl ?_); intro X v1 Xe hv1 nv1)
    | ((with_reducible refine at_slot 4 ?_); (refine arm_box (o := ⟨some 4, _, _, _, _, _⟩) rfl _ _ rfl (acs b) rfl ?_); intro Y v2 Ye hv2 nv2))
  have hbv1 := nv1.below
  have rrv1 : Row v1 X 25 (acs a) := hv1
  have hbv2 := nv2.below
  have rrv2 : Row v2 Y 25 (acs b) := hv2
  clear hv1 nv1 Xe
  have bel3 : Below w.heap.size w v1 := hbv1
  clear hbv1
  clear hv2 nv2 Ye
  have rX4 : Row v2 X 25 (acs a) := rrv1.old hbv2
  have bel4 : Below w.heap.size w v2 := below_step bel3 bel3.size hbv2
  clear rrv1 bel3 hbv2
  have rdl := HP.out.below bel4
  refine (CA.out _ (HKW.out _ bel4) (HKW2.out _ bel4)).mono ?_
  rintro e y5 ⟨rfl, hB⟩
  have rX6 : Row y5 X 25 (acs a) := rX4.old hB
  have rY6 : Row y5 Y 25 (acs b) := rrv2.old hB
  have dl6 : Rd y5 (p) (l) := rdl.below hB
  have bel6 : Below w.heap.size w y5 := below_step bel4 bel4.size hB
  clear rX4 rrv2 rdl bel4 hB
  have hcX := rX6.cell C0.out
  have hcY := rY6.cell C1.out
  go_wp2_with fail
  refine (CL.out _ dl6).mono ?_
  rintro e y7 ⟨rfl, hB⟩
  have rX8 : Row y7 X 25 (acs a) := rX6.old hB
  have rY8 : Row y7 Y 25 (acs b) := rY6.old hB
  have dl8 : Rd y7 (p) (l) := dl6.below hB
  have bel8 : Below w.heap.size w y7 := below_step bel6 bel6.size hB
  clear rX6 rY6 dl6 bel6 hB
  clear hcX hcY
  go_wp2_with (first
    | ((with_reducible refine at_slot 7 ?_); (refine arm_alloc (o := ⟨some 7, _, _, _, _, _⟩) rfl _ rfl (acs za) z_acc ?_); intro U v9a Ue hUa nU)
    | ((with_reducible refine arm_store (o := ⟨none, _, _, _, _, _⟩) rfl _ _ _ rfl U 0 rfl (acs u) rfl _ _ hUa (fitA u) (acs_one u) (sz_acc u) ?_); intro v9 hUb oU sU)
    | ((with_reducible refine at_slot 46 ?_); (refine arm_load (o := ⟨some 46, _, _, _, _, _⟩) rfl _ _ rfl U 0 rfl (acs u) ((Has.refl _).range (hUb.congr (allA u))) (sz_acc u) ?_)))
  have lU : y7.heap.size ≤ U := by have := Ue.out; omega
  have bU : Below y7.heap.size y7 v9 := below_only nU.below oU lU nU.below.size
  have rrU : Row v9 U 25 (acs u) := hUb.congr (allA u)
  clear hUa hUb nU oU sU Ue lU
  have rX10 : Row v9 X 25 (acs a) := rX8.old bU
  have rY10 : Row v9 Y 25 (acs b) := rY8.old bU
  have dl10 : Rd v9 (p) (l) := dl8.below bU
  have bel10 : Below w.heap.size w v9 := below_step bel8 bel8.size bU
  clear rX8 rY8 dl8 bel8 bU
  refine (CU.out _).mono ?_
  rintro e y11 ⟨⟨qu, cu, rfl, rdu, hnu⟩, hB⟩
  clear hnu
  have rX12 : Row y11 X 25 (acs a) := rX10.old hB
  have rY12 : Row y11 Y 25 (acs b) := rY10.old hB
  have rU12 : Row y11 U 25 (acs u) := rrU.old hB
  have dl12 : Rd y11 (p) (l) := dl10.below hB
  have bel12 : Below w.heap.size w y11 := below_step bel10 bel10.size hB
  clear rX10 rY10 rrU dl10 bel10 hB
  go_wp2_with fail
  refine (CSL.out qu cu _ rdu dl12).mono ?_
  rintro e y13 ⟨rfl, hB⟩
  have rX14 : Row y13 X 25 (acs a) := rX12.old hB
  have rY14 : Row y13 Y 25 (acs b) := rY12.old hB
  have rU14 : Row y13 U 25 (acs u) := rU12.old hB
  have dl14 : Rd y13 (p) (l) := dl12.below hB
  have du14 : Rd y13 (qu) (l) := rdu.below hB
  have bel14 : Below w.heap.size w y13 := below_step bel12 bel12.size hB
  clear rX12 rY12 rU12 dl12 rdu bel12 hB
  clear du14
  go_wp2_with (first
    | ((with_reducible refine at_slot 59 ?_); (refine arm_load (o := ⟨some 59, _, _, _, _, _⟩) rfl _ _ rfl X 0 rfl (acs a) ((Has.refl _).range rX14) (sz_acc a) ?_)))
  clear rU14
  refine (Ca.out _).mono ?_
  rintro e y15 ⟨⟨qx, cx, rfl, rdx, hnx⟩, hB⟩
  clear hnx
  have rX16 : Row y15 X 25 (acs a) := rX14.old hB
  have rY16 : Row y15 Y 25 (acs b) := rY14.old hB
  have dl16 : Rd y15 (p) (l) := dl14.below hB
  have bel16 : Below w.heap.size w y15 := below_step bel14 bel14.size hB
  clear rX14 rY14 dl14 bel14 hB
  go_wp2_with (first
    | ((with_reducible refine at_slot 64 ?_); (refine arm_load (o := ⟨some 64, _, _, _, _, _⟩) rfl _ _ rfl Y 0 rfl (acs b) ((Has.refl _).range rY16) (sz_acc b) ?_)))
  refine (Cb.out _).mono ?_
  rintro e y17 ⟨⟨qy, cy, rfl, rdy, hny⟩, hB⟩
  clear hny
  have rX18 : Row y17 X 25 (acs a) := rX16.old hB
  have rY18 : Row y17 Y 25 (acs b) := rY16.old hB
  have dl18 : Rd y17 (p) (l) := dl16.below hB
  have dx18 : Rd y17 (qx) ([]) := rdx.below hB
  have bel18 : Below w.heap.size w y17 := below_step bel16 bel16.size hB
  clear rX16 rY16 dl16 rdx bel16 hB
  clear dx18
  clear rdy
  go_wp2_with (first
    | ((with_reducible refine at_slot 76 ?_); (refine arm_load (o := ⟨some 76, _, _, _, _, _⟩) rfl _ _ rfl X 0 rfl (acs a) ((Has.refl _).range rX18) (sz_acc a) ?_)))
  refine (Car.out _).mono ?_
  rintro e y19 ⟨rfl, hB⟩
  have rX20 : Row y19 X 25 (acs a) := rX18.old hB
  have rY20 : Row y19 Y 25 (acs b) := rY18.old hB
  have dl20 : Rd y19 (p) (l) := dl18.below hB
  have bel20 : Below w.heap.size w y19 := below_step bel18 bel18.size hB
  clear rX18 rY18 dl18 bel18 hB
  go_wp2_with (first
    | ((with_reducible refine at_slot 78 ?_); (refine arm_want (.bool true) 78 rfl (by kernel_rfl) (run_op_eqlBB _ _ _ rfl false false rfl rfl true rfl _) ?_))
    | ((with_reducible refine at_slot 82 ?_); (refine arm_want (.agg (acs b).toArray) 82 rfl (by kernel_rfl) (run_op_load _ _ rfl Y 0 rfl (acs b) ((Has.refl _).range rY20) (sz_acc b)) ?_)))
  refine (Cbr.out _).mono ?_
  rintro e y21 ⟨rfl, hB⟩
  have rX22 : Row y21 X 25 (acs a) := rX20.old hB
  have rY22 : Row y21 Y 25 (acs b) := rY20.old hB
  have dl22 : Rd y21 (p) (l) := dl20.below hB
  have bel22 : Below w.heap.size w y21 := below_step bel20 bel20.size hB
  clear rX20 rY20 dl20 bel20 hB
  go_wp2_with (first
    | ((with_reducible refine at_slot 84 ?_); (refine arm_want (.bool true) 84 rfl (by kernel_rfl) (run_op_eqlBB _ _ _ rfl false false rfl rfl true rfl _) ?_)))
  go_ret
  exact ⟨rfl, bel22⟩
set_option maxHeartbeats 4000000 in
set_option maxRecDepth 100000 in
theorem back_nrr (a b : Acct) (l : List Nat) (p : Option Addr) (cap : Nat) (w : World) (ka : a.Ok) (kb : b.Ok) (hp : Rd w p l) (hn : p = none → l.length = 0 ∧ cap = 0) (hlt : AllLt 256 l) (hk : w.rangeAt 1 0 (u32s ks)) (hk2 : w.rangeAt 0 0 (u32s ks)) (hla : a.nm.size ≤ 300) (hlb : b.nm.size ≤ 300) (hll : l.length ≤ 300) (hg : (rdA l).2 ≠ 0) (ra : NRt a.nm) (rb : NRt b.nm) :
    Calls Tryd.prog 4 #[.agg (acs a).toArray, .agg (acs b).toArray, .slice p l.length cap] w fun e w' => e = .returned (.bool true) ∧ Below w.heap.size w w' := by
  have hk1 : 1 < w.heap.size := range_lt hk (by simp [u32s, ks])
  have HKW : Hid (∀ w', Below w.heap.size w w' → w'.rangeAt 1 0 (u32s ks)) := Lib.hid fun w' hb => range_block hk (hb.block _ hk1)
  have hk3 : 0 < w.heap.size := range_lt hk2 (by simp [u32s, ks])
  have HKW2 : Hid (∀ w', Below w.heap.size w w' → w'.rangeAt 0 0 (u32s ks)) := Lib.hid fun w' hb => range_block hk2 (hb.block _ hk3)
  clear hk hk1 hk2 hk3
  have CA := Lib.hid (fun w0 h1 h2 => awake_any w0 h1 h2)
  have c0 : (acs a)[0]? = some (.string a.nm) := rfl
  have c1 : (acs b)[0]? = some (.string b.nm) := rfl
  have HP := Lib.hid hp
  have CL := Lib.hid (fun w0 (h : Rd w0 p l) => read_at l l.length rfl p cap w0 h hn (by omega) hlt)
  obtain ⟨u, hu⟩ : ∃ u, u = (rdA l).1 := ⟨_, rfl⟩
  obtain ⟨f, hf⟩ : ∃ f : Int, f = ((rdA l).2 : Int) := ⟨_, rfl⟩
  rw [← hu, ← hf] at CL
  have hfz : (f == 0) = false := beq_eq_false_iff_ne.2 (by omega)
  clear hf
  have hba : ansB a = accB a := by unfold ansB; rw [if_pos ra]
  have hea : ansE a = 0 := by unfold ansE; rw [if_pos ra]
  have h2a := accB_len a
  have h8a := ra.2.1; have h1a := ra.1
  obtain ⟨m, hm⟩ : ∃ m, (accB a).length = m := ⟨_, rfl⟩
  have Ca := Lib.hid (fun w0 => bytes_at a w0 ka m (by rw [hba]; exact hm) 0 (by rw [hea]; rfl))
  rw [hba] at Ca
  have Car := Lib.hid (fun w0 => aright_any a w0)
  rw [decide_eq_true ra] at Car
  have hbb : ansB b = accB b := by unfold ansB; rw [if_pos rb]
  have heb : ansE b = 0 := by unfold ansE; rw [if_pos rb]
  have h2b := accB_len b
  have h8b := rb.2.1; have h1b := rb.1
  obtain ⟨n, hn2⟩ : ∃ n, (accB b).length = n := ⟨_, rfl⟩
  have Cb := Lib.hid (fun w0 => bytes_at b w0 kb n (by rw [hbb]; exact hn2) 0 (by rw [heb]; rfl))
  rw [hbb] at Cb
  have Cbr := Lib.hid (fun w0 => aright_any b w0)
  rw [decide_eq_true rb] at Cbr
  have hlta : AllLt 256 (accB a) := accB_lt (by omega)
  have hab : decide (accB a = accB b) = true ↔ a = b := by
    rw [decide_eq_true_iff]
    exact ⟨acc_inj ka kb ra rb, fun h => by rw [h]⟩
  have CD := Lib.hid (fun (q : Option Addr) (c : Nat) (w0 : World) (h1 : Rd w0 q (accB a)) (h2 : q = none → (accB a).length = 0 ∧ c = 0) => read_at (accB a) m hm.symm q c w0 h1 h2 (by omega) hlta)
  rw [acc_back ka ra] at CD
  have CSH := Lib.hid (fun (q : Option Addr) (c : Nat) (w0 : World) (h1 : Rd w0 q ((accB a).take (m - 1))) (h2 : q = none → ((accB a).take (m - 1)).length = 0 ∧ c = 0) => read_at ((accB a).take (m - 1)) (m - 1) (by rw [List.length_take]; omega) q c w0 h1 h2 (by rw [List.length_take]; omega) (fun x hx => hlta x (List.mem_of_mem_take hx)))
  have hsh := acc_short ka ra
  rw [hm] at hsh
  rw [hsh] at CSH
  have CLO := Lib.hid (fun (q : Option Addr) (c : Nat) (w0 : World) (h1 : Rd w0 q (accB a ++ [0])) (h2 : q = none → (accB a ++ [0]).length = 0 ∧ c = 0) => read_at (accB a ++ [0]) (m + 1) (by rw [List.length_append, hm]; rfl) q c w0 h1 h2 (by rw [List.length_append, hm]; simp; omega) (fun x hx => by
    rcases List.mem_append.1 hx with h | h
    · exact hlta x h
    · rw [List.mem_singleton.1 h]; decide))
  rw [acc_long ka ra] at CLO
  have CSS := Lib.hid (fun (q r : Option Addr) (c d : Nat) (w0 : World) (h1 : Rd w0 q (accB a)) (h2 : Rd w0 r (accB b)) => same_at (accB a) (accB b) q r c d m n hm.symm hn2.symm w0 h1 h2 (by omega) (by omega))
  obtain ⟨v, hv⟩ : ∃ v : Bool, v = decide (accB a = accB b) := ⟨_, rfl⟩
  rw [← hv] at CSS hab
  have HV := Lib.hid hab
  have HML := Lib.hid hm
  have hm14 : 14 ≤ m := by omega
  have hm21 : m ≤ 21 := by omega
  have hmi : (m : Int) - 1 = ((m - 1 : Nat) : Int) := by omega
  obtain ⟨xs, hxs⟩ : ∃ x, x = accB a := ⟨_, rfl⟩
  obtain ⟨ys, hys⟩ : ∃ x, x = accB b := ⟨_, rfl⟩
  rw [← hxs] at Ca CD CSH CLO CSS HML
  rw [← hys] at Cb CSS
  have HNI := Lib.hid hmi
  clear hlta hab hsh hv hxs hys hmi
  obtain ⟨s, hs⟩ : ∃ s, s = a.nm := ⟨_, rfl⟩
  obtain ⟨t, ht⟩ : ∃ t, t = b.nm := ⟨_, rfl⟩
  rw [← hs] at c0
  rw [← ht] at c1
  have C0 := Lib.hid c0; have C1 := Lib.hid c1
  clear c0 c1
  rw [← hs] at hla
  rw [← ht] at hlb
  have ds : decide ((300 : Int) < (s.size : Int)) = false := decide_eq_false (by omega)
  have ds' : decide (300 < s.size) = false := decide_eq_false (by omega)
  have dt : decide ((300 : Int) < (t.size : Int)) = false := decide_eq_false (by omega)
  have dt' : decide (300 < t.size) = false := decide_eq_false (by omega)
  have dl : decide ((300 : Int) < (l.length : Int)) = false := decide_eq_false (by omega)
  have dl' : decide (300 < l.length) = false := decide_eq_false (by omega)
  clear hs ht ka kb hp hn hlt hla hlb hll hg ra rb hu hba hea h2a h8a h1a hm hbb heb h2b h8b h1b hn2
  go_enter Tryd.func4, Tryd.ntmps4
  go_wp2_with (first
    | ((with_reducible refine at_slot 3 ?_); (refine arm_box (o := ⟨some 3, _, _, _, _, _⟩) rfl _ _ rfl (acs a) rfl ?_); intro X v1 Xe hv1 nv1)
    | ((with_reducible refine at_slot 4 ?_); (refine arm_box (o := ⟨some 4, _, _, _, _, _⟩) rfl _ _ rfl (acs b) rfl ?_); intro Y v2 Ye hv2 nv2))
  have hbv1 := nv1.below
  have rrv1 : Row v1 X 25 (acs a) := hv1
  have hbv2 := nv2.below
  have rrv2 : Row v2 Y 25 (acs b) := hv2
  clear hv1 nv1 Xe
  have bel3 : Below w.heap.size w v1 := hbv1
  clear hbv1
  clear hv2 nv2 Ye
  have rX4 : Row v2 X 25 (acs a) := rrv1.old hbv2
  have bel4 : Below w.heap.size w v2 := below_step bel3 bel3.size hbv2
  clear rrv1 bel3 hbv2
  have rdl := HP.out.below bel4
  refine (CA.out _ (HKW.out _ bel4) (HKW2.out _ bel4)).mono ?_
  rintro e y5 ⟨rfl, hB⟩
  have rX6 : Row y5 X 25 (acs a) := rX4.old hB
  have rY6 : Row y5 Y 25 (acs b) := rrv2.old hB
  have dl6 : Rd y5 (p) (l) := rdl.below hB
  have bel6 : Below w.heap.size w y5 := below_step bel4 bel4.size hB
  clear rX4 rrv2 rdl bel4 hB
  have hcX := rX6.cell C0.out
  have hcY := rY6.cell C1.out
  go_wp2_with fail
  refine (CL.out _ dl6).mono ?_
  rintro e y7 ⟨rfl, hB⟩
  have rX8 : Row y7 X 25 (acs a) := rX6.old hB
  have rY8 : Row y7 Y 25 (acs b) := rY6.old hB
  have dl8 : Rd y7 (p) (l) := dl6.below hB
  have bel8 : Below w.heap.size w y7 := below_step bel6 bel6.size hB
  clear rX6 rY6 dl6 bel6 hB
  clear hcX hcY
  go_wp2_with (first
    | ((with_reducible refine at_slot 7 ?_); (refine arm_alloc (o := ⟨some 7, _, _, _, _, _⟩) rfl _ rfl (acs za) z_acc ?_); intro U v9a Ue hUa nU)
    | ((with_reducible refine arm_store (o := ⟨none, _, _, _, _, _⟩) rfl _ _ _ rfl U 0 rfl (acs u) rfl _ _ hUa (fitA u) (acs_one u) (sz_acc u) ?_); intro v9 hUb oU sU)
    | ((with_reducible refine at_slot 59 ?_); (refine arm_load (o := ⟨some 59, _, _, _, _, _⟩) rfl _ _ rfl X 0 rfl (acs a) ((Has.refl _).range ((rX8.old nU.below).only oU (by have := Ue.out; have := rX8.lt; omega))) (sz_acc a) ?_)))
  have lU : y7.heap.size ≤ U := by have := Ue.out; omega
  have bU : Below y7.heap.size y7 v9 := below_only nU.below oU lU nU.below.size
  have rrU : Row v9 U 25 (acs u) := hUb.congr (allA u)
  clear hUa hUb nU oU sU Ue lU
  have rX10 : Row v9 X 25 (acs a) := rX8.old bU
  have rY10 : Row v9 Y 25 (acs b) := rY8.old bU
  have dl10 : Rd v9 (p) (l) := dl8.below bU
  have bel10 : Below w.heap.size w v9 := below_step bel8 bel8.size bU
  clear rX8 rY8 dl8 bel8 bU
  clear rrU
  refine (Ca.out _).mono ?_
  rintro e y11 ⟨⟨qx, cx, rfl, rdx, hnx⟩, hB⟩
  have rX12 : Row y11 X 25 (acs a) := rX10.old hB
  have rY12 : Row y11 Y 25 (acs b) := rY10.old hB
  have dl12 : Rd y11 (p) (l) := dl10.below hB
  have bel12 : Below w.heap.size w y11 := below_step bel10 bel10.size hB
  clear rX10 rY10 dl10 bel10 hB
  have HNX := Lib.hid hnx; clear hnx
  go_wp2_with (first
    | ((with_reducible refine at_slot 64 ?_); (refine arm_load (o := ⟨some 64, _, _, _, _, _⟩) rfl _ _ rfl Y 0 rfl (acs b) ((Has.refl _).range rY12) (sz_acc b) ?_)))
  refine (Cb.out _).mono ?_
  rintro e y13 ⟨⟨qy, cy, rfl, rdy, hny⟩, hB⟩
  clear hny
  have rX14 : Row y13 X 25 (acs a) := rX12.old hB
  have rY14 : Row y13 Y 25 (acs b) := rY12.old hB
  have dl14 : Rd y13 (p) (l) := dl12.below hB
  have dx14 : Rd y13 (qx) (xs) := rdx.below hB
  have bel14 : Below w.heap.size w y13 := below_step bel12 bel12.size hB
  clear rX12 rY12 dl12 rdx bel12 hB
  go_wp2_with fail
  refine (CD.out qx cx _ dx14 HNX.out.1).mono ?_
  rintro e y15 ⟨rfl, hB⟩
  have rX16 : Row y15 X 25 (acs a) := rX14.old hB
  have rY16 : Row y15 Y 25 (acs b) := rY14.old hB
  have dl16 : Rd y15 (p) (l) := dl14.below hB
  have dx16 : Rd y15 (qx) (xs) := dx14.below hB
  have dy16 : Rd y15 (qy) (ys) := rdy.below hB
  have bel16 : Below w.heap.size w y15 := below_step bel14 bel14.size hB
  clear rX14 rY14 dl14 dx14 rdy bel14 hB
  go_wp2_with (first
    | ((with_reducible refine at_slot 15 ?_); (refine arm_alloc (o := ⟨some 15, _, _, _, _, _⟩) rfl _ rfl (acs za) z_acc ?_); intro C v17a Ce hCa nC)
    | ((with_reducible refine arm_store (o := ⟨none, _, _, _, _, _⟩) rfl _ _ _ rfl C 0 rfl (acs a) rfl _ _ hCa (fitA a) (acs_one a) (sz_acc a) ?_); intro v17 hCb oC sC)
    | ((with_reducible refine at_slot 96 ?_); (refine arm_headS (o := ⟨some 96, _, _, _, _, _⟩) rfl _ _ _ rfl 5 (by kernel_rfl) (by kernel_rfl) qx m cx rfl .i64 _ rfl (m - 1) HNI.out (by have := HNX.out.2; have := HML.out; omega) ?_)))
  have lC : y15.heap.size ≤ C := by have := Ce.out; omega
  have bC : Below y15.heap.size y15 v17 := below_only nC.below oC lC nC.below.size
  have rrC : Row v17 C 25 (acs a) := hCb.congr (allA a)
  clear hCa hCb nC oC sC Ce lC
  have rX18 : Row v17 X 25 (acs a) := rX16.old bC
  have rY18 : Row v17 Y 25 (acs b) := rY16.old bC
  have dl18 : Rd v17 (p) (l) := dl16.below bC
  have dx18 : Rd v17 (qx) (xs) := dx16.below bC
  have dy18 : Rd v17 (qy) (ys) := dy16.below bC
  have bel18 : Below w.heap.size w v17 := below_step bel16 bel16.size bC
  clear rX16 rY16 dl16 dx16 dy16 bel16 bC
  refine (CSH.out qx cx _ (Rd_take dx18 (m - 1)) (fun e => by have := HNX.out.1 e; have := HML.out; omega)).mono ?_
  rintro e y19 ⟨rfl, hB⟩
  have rX20 : Row y19 X 25 (acs a) := rX18.old hB
  have rY20 : Row y19 Y 25 (acs b) := rY18.old hB
  have rC20 : Row y19 C 25 (acs a) := rrC.old hB
  have dl20 : Rd y19 (p) (l) := dl18.below hB
  have dx20 : Rd y19 (qx) (xs) := dx18.below hB
  have dy20 : Rd y19 (qy) (ys) := dy18.below hB
  have bel20 : Below w.heap.size w y19 := below_step bel18 bel18.size hB
  clear rX18 rY18 rrC dl18 dx18 dy18 bel18 hB
  have HNX2 : Hid (qx = none → m = 0 ∧ cx = 0) := Lib.hid fun e => by have := HNX.out.1 e; have := HML.out; omega
  go_wp2_with (first
    | ((with_reducible refine at_slot 17 ?_); (refine arm_alloc (o := ⟨some 17, _, _, _, _, _⟩) rfl _ rfl (acs za) z_acc ?_); intro E wEa Ee hEa nE)
    | ((with_reducible refine arm_store (o := ⟨none, _, _, _, _, _⟩) rfl _ _ _ rfl E 0 rfl (acs za) rfl _ _ hEa (fitA za) (acs_one za) (sz_acc za) ?_); intro wE hEb oE sE)
    | ((with_reducible refine at_slot 101 ?_); (refine arm_buildSlice (o := ⟨some 101, _, _, _, _, _⟩) rfl 0 _ rfl [] #[] (by simp) bs0 ?_); intro b1 wf hb1 hR1 hN1)
    | ((with_reducible refine at_slot 103 ?_); (refine arm_append2 (o := ⟨some 103, _, _, _, _, _⟩) rfl _ _ rfl wE.heap.size (some ⟨b1, 0, none⟩) 0 0 [] rfl rfl (own_new hR1 (by have := hb1.out; omega)) qx m cx xs rfl HML.out.symm HNX2.out ((dx20.below (below_only nE.below oE (by have := Ee.out; omega) nE.below.size)).below hN1.below).at_ (by rw [HML.out, List.length_nil]; omega) (by have := hN1.below.size; omega) ?_); intro p2 cap2 wg hO2 hS2)
    | ((with_reducible refine at_slot 104 ?_); (refine arm_buildSlice (o := ⟨some 104, _, _, _, _, _⟩) rfl 1 _ rfl [.int .u8 0] #[(0, .int .u8 0)] (by simp [Act.eval]) (bs1 _) ?_); intro b3 wh hb3 hR3 hN3)
    | ((with_reducible refine at_slot 105 ?_); (refine arm_append2 (o := ⟨some 105, _, _, _, _, _⟩) rfl _ _ rfl wE.heap.size p2 _ cap2 ([] ++ xs) (by rw [List.nil_append, HML.out]; try omega) rfl (hO2.below hN3.below) (some ⟨b3, 0, none⟩) 1 1 [0] rfl rfl (fun e => by cases e) (Tg.own_row (bs := [0]) hR3 (Nat.le_refl b3) (by simp)).bytes (by rw [List.nil_append, HML.out, List.length_singleton]; omega) (by have := hN1.below.size; have := hS2.size; have := hN3.below.size; omega) ?_); intro p4 cap4 wi hO4 hS4))
  have bE : Below y19.heap.size y19 wE := below_only nE.below oE (by have := Ee.out; omega) nE.below.size
  have rrE : Row wE E 25 (acs za) := hEb.congr (allA za)
  have bI : Below wE.heap.size wE wi := step_bel (step_bel hN1.below hN1.below.size (own_new hR1 (by have := hb1.out; omega)) hS2 |>.trans (hN3.below.mono (by have := hN1.below.size; have := hS2.size; omega))) (by have := hN1.below.size; have := hS2.size; have := hN3.below.size; omega) (hO2.below hN3.below) hS4
  rw [List.nil_append] at hO4
  have rdz : Rd wi p4 (xs ++ [0]) := hO4.rd
  have HNZ := Lib.hid (own_none hO4)
  clear hEa hEb nE oE sE Ee hb1 hR1 hN1 hO2 hS2 hb3 hR3 hN3 hO4 hS4
  have rX22 : Row wE X 25 (acs a) := rX20.old bE
  have rY22 : Row wE Y 25 (acs b) := rY20.old bE
  have rC22 : Row wE C 25 (acs a) := rC20.old bE
  have dl22 : Rd wE (p) (l) := dl20.below bE
  have dx22 : Rd wE (qx) (xs) := dx20.below bE
  have dy22 : Rd wE (qy) (ys) := dy20.below bE
  have bel22 : Below w.heap.size w wE := below_step bel20 bel20.size bE
  clear rX20 rY20 rC20 dl20 dx20 dy20 bel20 bE
  have rX23 : Row wi X 25 (acs a) := rX22.old bI
  have rY23 : Row wi Y 25 (acs b) := rY22.old bI
  have rC23 : Row wi C 25 (acs a) := rC22.old bI
  have rE23 : Row wi E 25 (acs za) := rrE.old bI
  have dl23 : Rd wi (p) (l) := dl22.below bI
  have dx23 : Rd wi (qx) (xs) := dx22.below bI
  have dy23 : Rd wi (qy) (ys) := dy22.below bI
  have bel23 : Below w.heap.size w wi := below_step bel22 bel22.size bI
  clear rX22 rY22 rC22 rrE dl22 dx22 dy22 bel22 bI
  refine (CLO.out p4 cap4 _ rdz HNZ.out).mono ?_
  rintro e y24 ⟨rfl, hB⟩
  clear rdz
  have rX25 : Row y24 X 25 (acs a) := rX23.old hB
  have rY25 : Row y24 Y 25 (acs b) := rY23.old hB
  have rC25 : Row y24 C 25 (acs a) := rC23.old hB
  have rE25 : Row y24 E 25 (acs za) := rE23.old hB
  have dl25 : Rd y24 (p) (l) := dl23.below hB
  have dx25 : Rd y24 (qx) (xs) := dx23.below hB
  have dy25 : Rd y24 (qy) (ys) := dy23.below hB
  have bel25 : Below w.heap.size w y24 := below_step bel23 bel23.size hB
  clear rX23 rY23 rC23 rE23 dl23 dx23 dy23 bel23 hB
  go_wp2_with (first
    | ((with_reducible refine at_slot 19 ?_); (refine arm_alloc (o := ⟨some 19, _, _, _, _, _⟩) rfl _ rfl (acs za) z_acc ?_); intro G v26a Ge hGa nG)
    | ((with_reducible refine arm_store (o := ⟨none, _, _, _, _, _⟩) rfl _ _ _ rfl G 0 rfl (acs za) rfl _ _ hGa (fitA za) (acs_one za) (sz_acc za) ?_); intro v26 hGb oG sG))
  have lG : y24.heap.size ≤ G := by have := Ge.out; omega
  have bG : Below y24.heap.size y24 v26 := below_only nG.below oG lG nG.below.size
  have rrG : Row v26 G 25 (acs za) := hGb.congr (allA za)
  clear hGa hGb nG oG sG Ge lG
  have rX27 : Row v26 X 25 (acs a) := rX25.old bG
  have rY27 : Row v26 Y 25 (acs b) := rY25.old bG
  have rC27 : Row v26 C 25 (acs a) := rC25.old bG
  have rE27 : Row v26 E 25 (acs za) := rE25.old bG
  have dl27 : Rd v26 (p) (l) := dl25.below bG
  have dx27 : Rd v26 (qx) (xs) := dx25.below bG
  have dy27 : Rd v26 (qy) (ys) := dy25.below bG
  have bel27 : Below w.heap.size w v26 := below_step bel25 bel25.size bG
  clear rX25 rY25 rC25 rE25 dl25 dx25 dy25 bel25 bG
  refine wp_region_held (S := fun w' => Below v26.heap.size v26 w') (by kernel_rfl) ?_
  change wpAnyH _ _ _ _ _ _ _ _ v26.drew
  have hS : Below v26.heap.size v26 v26.drew := (Below.refl _ _).drew
  generalize v26.drew = yz at hS ⊢
  refine h_take 0 (.slice qx m cx) rfl 109 rfl (by kernel_rfl) (by kernel_rfl) (by kernel_rfl) (by kernel_rfl) (fun _ _ _ h => h) (fun w' _ => by kernel_rfl) hS ?_
  simp only [Act.put, List.setIfInBounds_toArray, List.set_cons_zero, List.set_cons_succ]
  refine h_take 1 (.slice qy n cy) rfl 110 rfl (by kernel_rfl) (by kernel_rfl) (by kernel_rfl) (by kernel_rfl) (fun _ _ _ h => h) (fun w' _ => by kernel_rfl) hS ?_
  simp only [Act.put, List.setIfInBounds_toArray, List.set_cons_zero, List.set_cons_succ]
  refine h_take 3 (.agg (acs a).toArray) rfl 112 rfl (by kernel_rfl) (by kernel_rfl) (by kernel_rfl) (by kernel_rfl) (fun _ _ _ h => h) (fun w' hw => run_op_load _ _ rfl X 0 rfl (acs a) ((Has.refl _).range (rX27.old hw)) (sz_acc a)) hS ?_
  simp only [Act.put, List.setIfInBounds_toArray, List.set_cons_zero, List.set_cons_succ]
  refine h_take 4 (.agg (acs b).toArray) rfl 113 rfl (by kernel_rfl) (by kernel_rfl) (by kernel_rfl) (by kernel_rfl) (fun _ _ _ h => h) (fun w' hw => run_op_load _ _ rfl Y 0 rfl (acs b) ((Has.refl _).range (rY27.old hw)) (sz_acc b)) hS ?_
  simp only [Act.put, List.setIfInBounds_toArray, List.set_cons_zero, List.set_cons_succ]
  refine h_take 5 (.bool v) rfl 114 rfl (by kernel_rfl) (by kernel_rfl) (by kernel_rfl) (by kernel_rfl) (fun _ _ _ h => h) (fun w' _ => run_op_eqlA _ _ _ rfl a b rfl rfl v HV.out w') hS ?_
  simp only [Act.put, List.setIfInBounds_toArray, List.set_cons_zero, List.set_cons_succ]
  refine h_one (i := 2) (by kernel_rfl) (o_call rfl 111 rfl (by kernel_rfl) (run_op_call 14 _ _ rfl #[.slice qx m cx, .slice qy n cy] (by simp only [List.map_toArray, List.map_cons, List.map_nil]; rfl) Tryd.func14 (by kernel_rfl) (by kernel_rfl) _) (CSS.out qx qy cx cy _ (dx27.below hS) (dy27.below hS)) ?_)
  rintro e yz1 ⟨rfl, hB⟩
  have hS1 : Below v26.heap.size v26 yz1 := below_step hS hS.size hB
  clear hB hS
  refine ⟨_, rfl, hS1, ?_⟩
  simp only [Act.put, List.setIfInBounds_toArray, List.set_cons_zero, List.set_cons_succ]
  refine h_take 6 (.bool true) rfl 115 rfl (by kernel_rfl) (by kernel_rfl) (by kernel_rfl) (by kernel_rfl) (fun _ _ _ h => h) (fun w' _ => run_op_eqlBB _ _ _ rfl v v rfl rfl true (beq_self_eq_true v) w') hS1 ?_
  simp only [Act.put, List.setIfInBounds_toArray, List.set_cons_zero, List.set_cons_succ]
  refine h_take 7 (.bool true) rfl 116 rfl (by kernel_rfl) (by kernel_rfl) (by kernel_rfl) (by kernel_rfl) (fun _ _ _ h => h) (fun w' _ => by kernel_rfl) hS1 ?_
  simp only [Act.put, List.setIfInBounds_toArray, List.set_cons_zero, List.set_cons_succ]
  refine h_take 8 (.agg (acs a).toArray) rfl 117 rfl (by kernel_rfl) (by kernel_rfl) (by kernel_rfl) (by kernel_rfl) (fun _ _ _ h => h) (fun w' hw => run_op_load _ _ rfl C 0 rfl (acs a) ((Has.refl _).range (rC27.old hw)) (sz_acc a)) hS1 ?_
  simp only [Act.put, List.setIfInBounds_toArray, List.set_cons_zero, List.set_cons_succ]
  refine h_take 9 (.agg (acs a).toArray) rfl 118 rfl (by kernel_rfl) (by kernel_rfl) (by kernel_rfl) (by kernel_rfl) (fun _ _ _ h => h) (fun w' hw => run_op_load _ _ rfl X 0 rfl (acs a) ((Has.refl _).range (rX27.old hw)) (sz_acc a)) hS1 ?_
  simp only [Act.put, List.setIfInBounds_toArray, List.set_cons_zero, List.set_cons_succ]
  refine h_take 10 (.bool true) rfl 119 rfl (by kernel_rfl) (by kernel_rfl) (by kernel_rfl) (by kernel_rfl) (fun _ _ _ h => h) (fun w' _ => run_op_eqlA _ _ _ rfl a a rfl rfl true (by simp) w') hS1 ?_
  simp only [Act.put, List.setIfInBounds_toArray, List.set_cons_zero, List.set_cons_succ]
  refine h_take 11 (.bool true) rfl 120 rfl (by kernel_rfl) (by kernel_rfl) (by kernel_rfl) (by kernel_rfl) (fun _ _ _ h => h) (fun w' _ => by kernel_rfl) hS1 ?_
  simp only [Act.put, List.setIfInBounds_toArray, List.set_cons_zero, List.set_cons_succ]
  refine h_take 12 (.bool true) rfl 121 rfl (by kernel_rfl) (by kernel_rfl) (by kernel_rfl) (by kernel_rfl) (fun _ _ _ h => h) (fun w' _ => by kernel_rfl) hS1 ?_
  simp only [Act.put, List.setIfInBounds_toArray, List.set_cons_zero, List.set_cons_succ]
  refine h_take 13 (.int .i64 0) rfl 122 rfl (by kernel_rfl) (by kernel_rfl) (by kernel_rfl) (by kernel_rfl) (fun _ _ _ h => h) (fun w' _ => by kernel_rfl) hS1 ?_
  simp only [Act.put, List.setIfInBounds_toArray, List.set_cons_zero, List.set_cons_succ]
  refine h_take 14 (.bool true) rfl 123 rfl (by kernel_rfl) (by kernel_rfl) (by kernel_rfl) (by kernel_rfl) (fun _ _ _ h => h) (fun w' _ => by kernel_rfl) hS1 ?_
  simp only [Act.put, List.setIfInBounds_toArray, List.set_cons_zero, List.set_cons_succ]
  refine h_take 15 (.bool true) rfl 124 rfl (by kernel_rfl) (by kernel_rfl) (by kernel_rfl) (by kernel_rfl) (fun _ _ _ h => h) (fun w' _ => by kernel_rfl) hS1 ?_
  simp only [Act.put, List.setIfInBounds_toArray, List.set_cons_zero, List.set_cons_succ]
  refine h_take 16 (.bool true) rfl 125 rfl (by kernel_rfl) (by kernel_rfl) (by kernel_rfl) (by kernel_rfl) (fun _ _ _ h => h) (fun w' _ => by kernel_rfl) hS1 ?_
  simp only [Act.put, List.setIfInBounds_toArray, List.set_cons_zero, List.set_cons_succ]
  refine h_take 17 (.int .i64 3) rfl 126 rfl (by kernel_rfl) (by kernel_rfl) (by kernel_rfl) (by kernel_rfl) (fun _ _ _ h => h) (fun w' _ => by kernel_rfl) hS1 ?_
  simp only [Act.put, List.setIfInBounds_toArray, List.set_cons_zero, List.set_cons_succ]
  refine h_take 18 (.bool true) rfl 127 rfl (by kernel_rfl) (by kernel_rfl) (by kernel_rfl) (by kernel_rfl) (fun _ _ _ h => h) (fun w' _ => by kernel_rfl) hS1 ?_
  simp only [Act.put, List.setIfInBounds_toArray, List.set_cons_zero, List.set_cons_succ]
  refine h_take 19 (.bool true) rfl 128 rfl (by kernel_rfl) (by kernel_rfl) (by kernel_rfl) (by kernel_rfl) (fun _ _ _ h => h) (fun w' _ => by kernel_rfl) hS1 ?_
  simp only [Act.put, List.setIfInBounds_toArray, List.set_cons_zero, List.set_cons_succ]
  refine h_take 20 (.bool true) rfl 129 rfl (by kernel_rfl) (by kernel_rfl) (by kernel_rfl) (by kernel_rfl) (fun _ _ _ h => h) (fun w' _ => by kernel_rfl) hS1 ?_
  simp only [Act.put, List.setIfInBounds_toArray, List.set_cons_zero, List.set_cons_succ]
  refine h_take 21 (.int .i64 4) rfl 130 rfl (by kernel_rfl) (by kernel_rfl) (by kernel_rfl) (by kernel_rfl) (fun _ _ _ h => h) (fun w' _ => by kernel_rfl) hS1 ?_
  simp only [Act.put, List.setIfInBounds_toArray, List.set_cons_zero, List.set_cons_succ]
  refine h_take 22 (.bool true) rfl 131 rfl (by kernel_rfl) (by kernel_rfl) (by kernel_rfl) (by kernel_rfl) (fun _ _ _ h => h) (fun w' _ => by kernel_rfl) hS1 ?_
  simp only [Act.put, List.setIfInBounds_toArray, List.set_cons_zero, List.set_cons_succ]
  refine h_take 23 (.bool true) rfl 132 rfl (by kernel_rfl) (by kernel_rfl) (by kernel_rfl) (by kernel_rfl) (fun _ _ _ h => h) (fun w' _ => by kernel_rfl) hS1 ?_
  simp only [Act.put, List.setIfInBounds_toArray, List.set_cons_zero, List.set_cons_succ]
  refine h_take 24 (.bool true) rfl 6 rfl (by kernel_rfl) (by kernel_rfl) (by kernel_rfl) (by kernel_rfl) (fun _ _ _ h => h) (fun w' _ => by kernel_rfl) hS1 ?_
  simp only [Act.put, List.setIfInBounds_toArray, List.set_cons_zero, List.set_cons_succ]
  refine wpAnyH_done (by kernel_rfl) ?_ _
  have belE := below_step bel27 bel27.size hS1
  go_wp2_with fail
  go_ret
  exact ⟨rfl, belE⟩
set_option maxHeartbeats 4000000 in
set_option maxRecDepth 100000 in
theorem back_nrx (a b : Acct) (l : List Nat) (p : Option Addr) (cap : Nat) (w : World) (ka : a.Ok) (kb : b.Ok) (hp : Rd w p l) (hn : p = none → l.length = 0 ∧ cap = 0) (hlt : AllLt 256 l) (hk : w.rangeAt 1 0 (u32s ks)) (hk2 : w.rangeAt 0 0 (u32s ks)) (hla : a.nm.size ≤ 300) (hlb : b.nm.size ≤ 300) (hll : l.length ≤ 300) (hg : (rdA l).2 ≠ 0) (ra : NRt a.nm) (rb : ¬ NRt b.nm) :
    Calls Tryd.prog 4 #[.agg (acs a).toArray, .agg (acs b).toArray, .slice p l.length cap] w fun e w' => e = .returned (.bool true) ∧ Below w.heap.size w w' := by
  have hk1 : 1 < w.heap.size := range_lt hk (by simp [u32s, ks])
  have HKW : Hid (∀ w', Below w.heap.size w w' → w'.rangeAt 1 0 (u32s ks)) := Lib.hid fun w' hb => range_block hk (hb.block _ hk1)
  have hk3 : 0 < w.heap.size := range_lt hk2 (by simp [u32s, ks])
  have HKW2 : Hid (∀ w', Below w.heap.size w w' → w'.rangeAt 0 0 (u32s ks)) := Lib.hid fun w' hb => range_block hk2 (hb.block _ hk3)
  clear hk hk1 hk2 hk3
  have CA := Lib.hid (fun w0 h1 h2 => awake_any w0 h1 h2)
  have c0 : (acs a)[0]? = some (.string a.nm) := rfl
  have c1 : (acs b)[0]? = some (.string b.nm) := rfl
  have HP := Lib.hid hp
  have CL := Lib.hid (fun w0 (h : Rd w0 p l) => read_at l l.length rfl p cap w0 h hn (by omega) hlt)
  obtain ⟨u, hu⟩ : ∃ u, u = (rdA l).1 := ⟨_, rfl⟩
  obtain ⟨f, hf⟩ : ∃ f : Int, f = ((rdA l).2 : Int) := ⟨_, rfl⟩
  rw [← hu, ← hf] at CL
  have hfz : (f == 0) = false := beq_eq_false_iff_ne.2 (by omega)
  clear hf
  have hba : ansB a = accB a := by unfold ansB; rw [if_pos ra]
  have hea : ansE a = 0 := by unfold ansE; rw [if_pos ra]
  have h2a := accB_len a
  have h8a := ra.2.1; have h1a := ra.1
  obtain ⟨m, hm⟩ : ∃ m, (accB a).length = m := ⟨_, rfl⟩
  have Ca := Lib.hid (fun w0 => bytes_at a w0 ka m (by rw [hba]; exact hm) 0 (by rw [hea]; rfl))
  rw [hba] at Ca
  have Car := Lib.hid (fun w0 => aright_any a w0)
  rw [decide_eq_true ra] at Car
  have hbb : ansB b = [] := by unfold ansB; rw [if_neg rb]
  have heb : ansE b = 1 := by unfold ansE; rw [if_neg rb]
  have Cb := Lib.hid (fun w0 => bytes_at b w0 kb 0 (by rw [hbb]; rfl) 1 (by rw [heb]; rfl))
  rw [hbb] at Cb
  have Cbr := Lib.hid (fun w0 => aright_any b w0)
  rw [decide_eq_false rb] at Cbr
  obtain ⟨s, hs⟩ : ∃ s, s = a.nm := ⟨_, rfl⟩
  obtain ⟨t, ht⟩ : ∃ t, t = b.nm := ⟨_, rfl⟩
  rw [← hs] at c0
  rw [← ht] at c1
  have C0 := Lib.hid c0; have C1 := Lib.hid c1
  clear c0 c1
  rw [← hs] at hla
  rw [← ht] at hlb
  have ds : decide ((300 : Int) < (s.size : Int)) = false := decide_eq_false (by omega)
  have ds' : decide (300 < s.size) = false := decide_eq_false (by omega)
  have dt : decide ((300 : Int) < (t.size : Int)) = false := decide_eq_false (by omega)
  have dt' : decide (300 < t.size) = false := decide_eq_false (by omega)
  have dl : decide ((300 : Int) < (l.length : Int)) = false := decide_eq_false (by omega)
  have dl' : decide (300 < l.length) = false := decide_eq_false (by omega)
  clear hs ht ka kb hp hn hlt hla hlb hll hg ra rb hu hba hea h2a h8a h1a hm hbb heb
  go_enter Tryd.func4, Tryd.ntmps4
  go_wp2_with (first
    | ((with_reducible refine at_slot 3 ?_); (refine arm_box (o := ⟨some 3, _, _, _, _, _⟩) rfl _ _ rfl (acs a) rfl ?_); intro X v1 Xe hv1 nv1)
    | ((with_reducible refine at_slot 4 ?_); (refine arm_box (o := ⟨some 4, _, _, _, _, _⟩) rfl _ _ rfl (acs b) rfl ?_); intro Y v2 Ye hv2 nv2))
  have hbv1 := nv1.below
  have rrv1 : Row v1 X 25 (acs a) := hv1
  have hbv2 := nv2.below
  have rrv2 : Row v2 Y 25 (acs b) := hv2
  clear hv1 nv1 Xe
  have bel3 : Below w.heap.size w v1 := hbv1
  clear hbv1
  clear hv2 nv2 Ye
  have rX4 : Row v2 X 25 (acs a) := rrv1.old hbv2
  have bel4 : Below w.heap.size w v2 := below_step bel3 bel3.size hbv2
  clear rrv1 bel3 hbv2
  have rdl := HP.out.below bel4
  refine (CA.out _ (HKW.out _ bel4) (HKW2.out _ bel4)).mono ?_
  rintro e y5 ⟨rfl, hB⟩
  have rX6 : Row y5 X 25 (acs a) := rX4.old hB
  have rY6 : Row y5 Y 25 (acs b) := rrv2.old hB
  have dl6 : Rd y5 (p) (l) := rdl.below hB
  have bel6 : Below w.heap.size w y5 := below_step bel4 bel4.size hB
  clear rX4 rrv2 rdl bel4 hB
  have hcX := rX6.cell C0.out
  have hcY := rY6.cell C1.out
  go_wp2_with fail
  refine (CL.out _ dl6).mono ?_
  rintro e y7 ⟨rfl, hB⟩
  have rX8 : Row y7 X 25 (acs a) := rX6.old hB
  have rY8 : Row y7 Y 25 (acs b) := rY6.old hB
  have dl8 : Rd y7 (p) (l) := dl6.below hB
  have bel8 : Below w.heap.size w y7 := below_step bel6 bel6.size hB
  clear rX6 rY6 dl6 bel6 hB
  clear hcX hcY
  go_wp2_with (first
    | ((with_reducible refine at_slot 7 ?_); (refine arm_alloc (o := ⟨some 7, _, _, _, _, _⟩) rfl _ rfl (acs za) z_acc ?_); intro U v9a Ue hUa nU)
    | ((with_reducible refine arm_store (o := ⟨none, _, _, _, _, _⟩) rfl _ _ _ rfl U 0 rfl (acs u) rfl _ _ hUa (fitA u) (acs_one u) (sz_acc u) ?_); intro v9 hUb oU sU)
    | ((with_reducible refine at_slot 59 ?_); (refine arm_load (o := ⟨some 59, _, _, _, _, _⟩) rfl _ _ rfl X 0 rfl (acs a) ((Has.refl _).range ((rX8.old nU.below).only oU (by have := Ue.out; have := rX8.lt; omega))) (sz_acc a) ?_)))
  have lU : y7.heap.size ≤ U := by have := Ue.out; omega
  have bU : Below y7.heap.size y7 v9 := below_only nU.below oU lU nU.below.size
  have rrU : Row v9 U 25 (acs u) := hUb.congr (allA u)
  clear hUa hUb nU oU sU Ue lU
  have rX10 : Row v9 X 25 (acs a) := rX8.old bU
  have rY10 : Row v9 Y 25 (acs b) := rY8.old bU
  have dl10 : Rd v9 (p) (l) := dl8.below bU
  have bel10 : Below w.heap.size w v9 := below_step bel8 bel8.size bU
  clear rX8 rY8 dl8 bel8 bU
  clear rrU
  refine (Ca.out _).mono ?_
  rintro e y11 ⟨⟨qx, cx, rfl, rdx, hnx⟩, hB⟩
  clear hnx
  have rX12 : Row y11 X 25 (acs a) := rX10.old hB
  have rY12 : Row y11 Y 25 (acs b) := rY10.old hB
  have dl12 : Rd y11 (p) (l) := dl10.below hB
  have bel12 : Below w.heap.size w y11 := below_step bel10 bel10.size hB
  clear rX10 rY10 dl10 bel10 hB
  go_wp2_with (first
    | ((with_reducible refine at_slot 64 ?_); (refine arm_load (o := ⟨some 64, _, _, _, _, _⟩) rfl _ _ rfl Y 0 rfl (acs b) ((Has.refl _).range rY12) (sz_acc b) ?_)))
  refine (Cb.out _).mono ?_
  rintro e y13 ⟨⟨qy, cy, rfl, rdy, hny⟩, hB⟩
  clear hny
  have rX14 : Row y13 X 25 (acs a) := rX12.old hB
  have rY14 : Row y13 Y 25 (acs b) := rY12.old hB
  have dl14 : Rd y13 (p) (l) := dl12.below hB
  have dx14 : Rd y13 (qx) (accB a) := rdx.below hB
  have bel14 : Below w.heap.size w y13 := below_step bel12 bel12.size hB
  clear rX12 rY12 dl12 rdx bel12 hB
  clear dx14
  clear rdy
  go_wp2_with (first
    | ((with_reducible refine at_slot 76 ?_); (refine arm_load (o := ⟨some 76, _, _, _, _, _⟩) rfl _ _ rfl X 0 rfl (acs a) ((Has.refl _).range rX14) (sz_acc a) ?_)))
  refine (Car.out _).mono ?_
  rintro e y15 ⟨rfl, hB⟩
  have rX16 : Row y15 X 25 (acs a) := rX14.old hB
  have rY16 : Row y15 Y 25 (acs b) := rY14.old hB
  have dl16 : Rd y15 (p) (l) := dl14.below hB
  have bel16 : Below w.heap.size w y15 := below_step bel14 bel14.size hB
  clear rX14 rY14 dl14 bel14 hB
  go_wp2_with (first
    | ((with_reducible refine at_slot 78 ?_); (refine arm_want (.bool true) 78 rfl (by kernel_rfl) (run_op_eqlBB _ _ _ rfl true true rfl rfl true rfl _) ?_))
    | ((with_reducible refine at_slot 82 ?_); (refine arm_want (.agg (acs b).toArray) 82 rfl (by kernel_rfl) (run_op_load _ _ rfl Y 0 rfl (acs b) ((Has.refl _).range rY16) (sz_acc b)) ?_)))
  refine (Cbr.out _).mono ?_
  rintro e y17 ⟨rfl, hB⟩
  have rX18 : Row y17 X 25 (acs a) := rX16.old hB
  have rY18 : Row y17 Y 25 (acs b) := rY16.old hB
  have dl18 : Rd y17 (p) (l) := dl16.below hB
  have bel18 : Below w.heap.size w y17 := below_step bel16 bel16.size hB
  clear rX16 rY16 dl16 bel16 hB
  go_wp2_with (first
    | ((with_reducible refine at_slot 84 ?_); (refine arm_want (.bool true) 84 rfl (by kernel_rfl) (run_op_eqlBB _ _ _ rfl false false rfl rfl true rfl _) ?_)))
  go_ret
  exact ⟨rfl, bel18⟩
set_option maxHeartbeats 4000000 in
set_option maxRecDepth 100000 in
theorem back_nxr (a b : Acct) (l : List Nat) (p : Option Addr) (cap : Nat) (w : World) (ka : a.Ok) (kb : b.Ok) (hp : Rd w p l) (hn : p = none → l.length = 0 ∧ cap = 0) (hlt : AllLt 256 l) (hk : w.rangeAt 1 0 (u32s ks)) (hk2 : w.rangeAt 0 0 (u32s ks)) (hla : a.nm.size ≤ 300) (hlb : b.nm.size ≤ 300) (hll : l.length ≤ 300) (hg : (rdA l).2 ≠ 0) (ra : ¬ NRt a.nm) (rb : NRt b.nm) :
    Calls Tryd.prog 4 #[.agg (acs a).toArray, .agg (acs b).toArray, .slice p l.length cap] w fun e w' => e = .returned (.bool true) ∧ Below w.heap.size w w' := by
  have hk1 : 1 < w.heap.size := range_lt hk (by simp [u32s, ks])
  have HKW : Hid (∀ w', Below w.heap.size w w' → w'.rangeAt 1 0 (u32s ks)) := Lib.hid fun w' hb => range_block hk (hb.block _ hk1)
  have hk3 : 0 < w.heap.size := range_lt hk2 (by simp [u32s, ks])
  have HKW2 : Hid (∀ w', Below w.heap.size w w' → w'.rangeAt 0 0 (u32s ks)) := Lib.hid fun w' hb => range_block hk2 (hb.block _ hk3)
  clear hk hk1 hk2 hk3
  have CA := Lib.hid (fun w0 h1 h2 => awake_any w0 h1 h2)
  have c0 : (acs a)[0]? = some (.string a.nm) := rfl
  have c1 : (acs b)[0]? = some (.string b.nm) := rfl
  have HP := Lib.hid hp
  have CL := Lib.hid (fun w0 (h : Rd w0 p l) => read_at l l.length rfl p cap w0 h hn (by omega) hlt)
  obtain ⟨u, hu⟩ : ∃ u, u = (rdA l).1 := ⟨_, rfl⟩
  obtain ⟨f, hf⟩ : ∃ f : Int, f = ((rdA l).2 : Int) := ⟨_, rfl⟩
  rw [← hu, ← hf] at CL
  have hfz : (f == 0) = false := beq_eq_false_iff_ne.2 (by omega)
  clear hf
  have hba : ansB a = [] := by unfold ansB; rw [if_neg ra]
  have hea : ansE a = 1 := by unfold ansE; rw [if_neg ra]
  have Ca := Lib.hid (fun w0 => bytes_at a w0 ka 0 (by rw [hba]; rfl) 1 (by rw [hea]; rfl))
  rw [hba] at Ca
  have Car := Lib.hid (fun w0 => aright_any a w0)
  rw [decide_eq_false ra] at Car
  have hbb : ansB b = accB b := by unfold ansB; rw [if_pos rb]
  have heb : ansE b = 0 := by unfold ansE; rw [if_pos rb]
  have h2b := accB_len b
  have h8b := rb.2.1; have h1b := rb.1
  obtain ⟨n, hn2⟩ : ∃ n, (accB b).length = n := ⟨_, rfl⟩
  have Cb := Lib.hid (fun w0 => bytes_at b w0 kb n (by rw [hbb]; exact hn2) 0 (by rw [heb]; rfl))
  rw [hbb] at Cb
  have Cbr := Lib.hid (fun w0 => aright_any b w0)
  rw [decide_eq_true rb] at Cbr
  obtain ⟨s, hs⟩ : ∃ s, s = a.nm := ⟨_, rfl⟩
  obtain ⟨t, ht⟩ : ∃ t, t = b.nm := ⟨_, rfl⟩
  rw [← hs] at c0
  rw [← ht] at c1
  have C0 := Lib.hid c0; have C1 := Lib.hid c1
  clear c0 c1
  rw [← hs] at hla
  rw [← ht] at hlb
  have ds : decide ((300 : Int) < (s.size : Int)) = false := decide_eq_false (by omega)
  have ds' : decide (300 < s.size) = false := decide_eq_false (by omega)
  have dt : decide ((300 : Int) < (t.size : Int)) = false := decide_eq_false (by omega)
  have dt' : decide (300 < t.size) = false := decide_eq_false (by omega)
  have dl : decide ((300 : Int) < (l.length : Int)) = false := decide_eq_false (by omega)
  have dl' : decide (300 < l.length) = false := decide_eq_false (by omega)
  clear hs ht ka kb hp hn hlt hla hlb hll hg ra rb hu hba hea hbb heb h2b h8b h1b hn2
  go_enter Tryd.func4, Tryd.ntmps4
  go_wp2_with (first
    | ((with_reducible refine at_slot 3 ?_); (refine arm_box (o := ⟨some 3, _, _, _, _, _⟩) rfl _ _ rfl (acs a) rfl ?_); intro X v1 Xe hv1 nv1)
    | ((with_reducible refine at_slot 4 ?_); (refine arm_box (o := ⟨some 4, _, _, _, _, _⟩) rfl _ _ rfl (acs b) rfl ?_); intro Y v2 Ye hv2 nv2))
  have hbv1 := nv1.below
  have rrv1 : Row v1 X 25 (acs a) := hv1
  have hbv2 := nv2.below
  have rrv2 : Row v2 Y 25 (acs b) := hv2
  clear hv1 nv1 Xe
  have bel3 : Below w.heap.size w v1 := hbv1
  clear hbv1
  clear hv2 nv2 Ye
  have rX4 : Row v2 X 25 (acs a) := rrv1.old hbv2
  have bel4 : Below w.heap.size w v2 := below_step bel3 bel3.size hbv2
  clear rrv1 bel3 hbv2
  have rdl := HP.out.below bel4
  refine (CA.out _ (HKW.out _ bel4) (HKW2.out _ bel4)).mono ?_
  rintro e y5 ⟨rfl, hB⟩
  have rX6 : Row y5 X 25 (acs a) := rX4.old hB
  have rY6 : Row y5 Y 25 (acs b) := rrv2.old hB
  have dl6 : Rd y5 (p) (l) := rdl.below hB
  have bel6 : Below w.heap.size w y5 := below_step bel4 bel4.size hB
  clear rX4 rrv2 rdl bel4 hB
  have hcX := rX6.cell C0.out
  have hcY := rY6.cell C1.out
  go_wp2_with fail
  refine (CL.out _ dl6).mono ?_
  rintro e y7 ⟨rfl, hB⟩
  have rX8 : Row y7 X 25 (acs a) := rX6.old hB
  have rY8 : Row y7 Y 25 (acs b) := rY6.old hB
  have dl8 : Rd y7 (p) (l) := dl6.below hB
  have bel8 : Below w.heap.size w y7 := below_step bel6 bel6.size hB
  clear rX6 rY6 dl6 bel6 hB
  clear hcX hcY
  go_wp2_with (first
    | ((with_reducible refine at_slot 7 ?_); (refine arm_alloc (o := ⟨some 7, _, _, _, _, _⟩) rfl _ rfl (acs za) z_acc ?_); intro U v9a Ue hUa nU)
    | ((with_reducible refine arm_store (o := ⟨none, _, _, _, _, _⟩) rfl _ _ _ rfl U 0 rfl (acs u) rfl _ _ hUa (fitA u) (acs_one u) (sz_acc u) ?_); intro v9 hUb oU sU)
    | ((with_reducible refine at_slot 59 ?_); (refine arm_load (o := ⟨some 59, _, _, _, _, _⟩) rfl _ _ rfl X 0 rfl (acs a) ((Has.refl _).range ((rX8.old nU.below).only oU (by have := Ue.out; have := rX8.lt; omega))) (sz_acc a) ?_)))
  have lU : y7.heap.size ≤ U := by have := Ue.out; omega
  have bU : Below y7.heap.size y7 v9 := below_only nU.below oU lU nU.below.size
  have rrU : Row v9 U 25 (acs u) := hUb.congr (allA u)
  clear hUa hUb nU oU sU Ue lU
  have rX10 : Row v9 X 25 (acs a) := rX8.old bU
  have rY10 : Row v9 Y 25 (acs b) := rY8.old bU
  have dl10 : Rd v9 (p) (l) := dl8.below bU
  have bel10 : Below w.heap.size w v9 := below_step bel8 bel8.size bU
  clear rX8 rY8 dl8 bel8 bU
  clear rrU
  refine (Ca.out _).mono ?_
  rintro e y11 ⟨⟨qx, cx, rfl, rdx, hnx⟩, hB⟩
  clear hnx
  have rX12 : Row y11 X 25 (acs a) := rX10.old hB
  have rY12 : Row y11 Y 25 (acs b) := rY10.old hB
  have dl12 : Rd y11 (p) (l) := dl10.below hB
  have bel12 : Below w.heap.size w y11 := below_step bel10 bel10.size hB
  clear rX10 rY10 dl10 bel10 hB
  go_wp2_with (first
    | ((with_reducible refine at_slot 64 ?_); (refine arm_load (o := ⟨some 64, _, _, _, _, _⟩) rfl _ _ rfl Y 0 rfl (acs b) ((Has.refl _).range rY12) (sz_acc b) ?_)))
  refine (Cb.out _).mono ?_
  rintro e y13 ⟨⟨qy, cy, rfl, rdy, hny⟩, hB⟩
  clear hny
  have rX14 : Row y13 X 25 (acs a) := rX12.old hB
  have rY14 : Row y13 Y 25 (acs b) := rY12.old hB
  have dl14 : Rd y13 (p) (l) := dl12.below hB
  have dx14 : Rd y13 (qx) ([]) := rdx.below hB
  have bel14 : Below w.heap.size w y13 := below_step bel12 bel12.size hB
  clear rX12 rY12 dl12 rdx bel12 hB
  clear dx14
  clear rdy
  go_wp2_with (first
    | ((with_reducible refine at_slot 76 ?_); (refine arm_load (o := ⟨some 76, _, _, _, _, _⟩) rfl _ _ rfl X 0 rfl (acs a) ((Has.refl _).range rX14) (sz_acc a) ?_)))
  refine (Car.out _).mono ?_
  rintro e y15 ⟨rfl, hB⟩
  have rX16 : Row y15 X 25 (acs a) := rX14.old hB
  have rY16 : Row y15 Y 25 (acs b) := rY14.old hB
  have dl16 : Rd y15 (p) (l) := dl14.below hB
  have bel16 : Below w.heap.size w y15 := below_step bel14 bel14.size hB
  clear rX14 rY14 dl14 bel14 hB
  go_wp2_with (first
    | ((with_reducible refine at_slot 78 ?_); (refine arm_want (.bool true) 78 rfl (by kernel_rfl) (run_op_eqlBB _ _ _ rfl false false rfl rfl true rfl _) ?_))
    | ((with_reducible refine at_slot 82 ?_); (refine arm_want (.agg (acs b).toArray) 82 rfl (by kernel_rfl) (run_op_load _ _ rfl Y 0 rfl (acs b) ((Has.refl _).range rY16) (sz_acc b)) ?_)))
  refine (Cbr.out _).mono ?_
  rintro e y17 ⟨rfl, hB⟩
  have rX18 : Row y17 X 25 (acs a) := rX16.old hB
  have rY18 : Row y17 Y 25 (acs b) := rY16.old hB
  have dl18 : Rd y17 (p) (l) := dl16.below hB
  have bel18 : Below w.heap.size w y17 := below_step bel16 bel16.size hB
  clear rX16 rY16 dl16 bel16 hB
  go_wp2_with (first
    | ((with_reducible refine at_slot 84 ?_); (refine arm_want (.bool true) 84 rfl (by kernel_rfl) (run_op_eqlBB _ _ _ rfl true true rfl rfl true rfl _) ?_)))
  go_ret
  exact ⟨rfl, bel18⟩
set_option maxHeartbeats 4000000 in
set_option maxRecDepth 100000 in
theorem back_nxx (a b : Acct) (l : List Nat) (p : Option Addr) (cap : Nat) (w : World) (ka : a.Ok) (kb : b.Ok) (hp : Rd w p l) (hn : p = none → l.length = 0 ∧ cap = 0) (hlt : AllLt 256 l) (hk : w.rangeAt 1 0 (u32s ks)) (hk2 : w.rangeAt 0 0 (u32s ks)) (hla : a.nm.size ≤ 300) (hlb : b.nm.size ≤ 300) (hll : l.length ≤ 300) (hg : (rdA l).2 ≠ 0) (ra : ¬ NRt a.nm) (rb : ¬ NRt b.nm) :
    Calls Tryd.prog 4 #[.agg (acs a).toArray, .agg (acs b).toArray, .slice p l.length cap] w fun e w' => e = .returned (.bool true) ∧ Below w.heap.size w w' := by
  have hk1 : 1 < w.heap.size := range_lt hk (by simp [u32s, ks])
  have HKW : Hid (∀ w', Below w.heap.size w w' → w'.rangeAt 1 0 (u32s ks)) := Lib.hid fun w' hb => range_block hk (hb.block _ hk1)
  have hk3 : 0 < w.heap.size := range_lt hk2 (by simp [u32s, ks])
  have HKW2 : Hid (∀ w', Below w.heap.size w w' → w'.rangeAt 0 0 (u32s ks)) := Lib.hid fun w' hb => range_block hk2 (hb.block _ hk3)
  clear hk hk1 hk2 hk3
  have CA := Lib.hid (fun w0 h1 h2 => awake_any w0 h1 h2)
  have c0 : (acs a)[0]? = some (.string a.nm) := rfl
  have c1 : (acs b)[0]? = some (.string b.nm) := rfl
  have HP := Lib.hid hp
  have CL := Lib.hid (fun w0 (h : Rd w0 p l) => read_at l l.length rfl p cap w0 h hn (by omega) hlt)
  obtain ⟨u, hu⟩ : ∃ u, u = (rdA l).1 := ⟨_, rfl⟩
  obtain ⟨f, hf⟩ : ∃ f : Int, f = ((rdA l).2 : Int) := ⟨_, rfl⟩
  rw [← hu, ← hf] at CL
  have hfz : (f == 0) = false := beq_eq_false_iff_ne.2 (by omega)
  clear hf
  have hba : ansB a = [] := by unfold ansB; rw [if_neg ra]
  have hea : ansE a = 1 := by unfold ansE; rw [if_neg ra]
  have Ca := Lib.hid (fun w0 => bytes_at a w0 ka 0 (by rw [hba]; rfl) 1 (by rw [hea]; rfl))
  rw [hba] at Ca
  have Car := Lib.hid (fun w0 => aright_any a w0)
  rw [decide_eq_false ra] at Car
  have hbb : ansB b = [] := by unfold ansB; rw [if_neg rb]
  have heb : ansE b = 1 := by unfold ansE; rw [if_neg rb]
  have Cb := Lib.hid (fun w0 => bytes_at b w0 kb 0 (by rw [hbb]; rfl) 1 (by rw [heb]; rfl))
  rw [hbb] at Cb
  have Cbr := Lib.hid (fun w0 => aright_any b w0)
  rw [decide_eq_false rb] at Cbr
  obtain ⟨s, hs⟩ : ∃ s, s = a.nm := ⟨_, rfl⟩
  obtain ⟨t, ht⟩ : ∃ t, t = b.nm := ⟨_, rfl⟩
  rw [← hs] at c0
  rw [← ht] at c1
  have C0 := Lib.hid c0; have C1 := Lib.hid c1
  clear c0 c1
  rw [← hs] at hla
  rw [← ht] at hlb
  have ds : decide ((300 : Int) < (s.size : Int)) = false := decide_eq_false (by omega)
  have ds' : decide (300 < s.size) = false := decide_eq_false (by omega)
  have dt : decide ((300 : Int) < (t.size : Int)) = false := decide_eq_false (by omega)
  have dt' : decide (300 < t.size) = false := decide_eq_false (by omega)
  have dl : decide ((300 : Int) < (l.length : Int)) = false := decide_eq_false (by omega)
  have dl' : decide (300 < l.length) = false := decide_eq_false (by omega)
  clear hs ht ka kb hp hn hlt hla hlb hll hg ra rb hu hba hea hbb heb
  go_enter Tryd.func4, Tryd.ntmps4
  go_wp2_with (first
    | ((with_reducible refine at_slot 3 ?_); (refine arm_box (o := ⟨some 3, _, _, _, _, _⟩) rfl _ _ rfl (acs a) rfl ?_); intro X v1 Xe hv1 nv1)
    | ((with_reducible refine at_slot 4 ?_); (refine arm_box (o := ⟨some 4, _, _, _, _, _⟩) rfl _ _ rfl (acs b) rfl ?_); intro Y v2 Ye hv2 nv2))
  have hbv1 := nv1.below
  have rrv1 : Row v1 X 25 (acs a) := hv1
  have hbv2 := nv2.below
  have rrv2 : Row v2 Y 25 (acs b) := hv2
  clear hv1 nv1 Xe
  have bel3 : Below w.heap.size w v1 := hbv1
  clear hbv1
  clear hv2 nv2 Ye
  have rX4 : Row v2 X 25 (acs a) := rrv1.old hbv2
  have bel4 : Below w.heap.size w v2 := below_step bel3 bel3.size hbv2
  clear rrv1 bel3 hbv2
  have rdl := HP.out.below bel4
  refine (CA.out _ (HKW.out _ bel4) (HKW2.out _ bel4)).mono ?_
  rintro e y5 ⟨rfl, hB⟩
  have rX6 : Row y5 X 25 (acs a) := rX4.old hB
  have rY6 : Row y5 Y 25 (acs b) := rrv2.old hB
  have dl6 : Rd y5 (p) (l) := rdl.below hB
  have bel6 : Below w.heap.size w y5 := below_step bel4 bel4.size hB
  clear rX4 rrv2 rdl bel4 hB
  have hcX := rX6.cell C0.out
  have hcY := rY6.cell C1.out
  go_wp2_with fail
  refine (CL.out _ dl6).mono ?_
  rintro e y7 ⟨rfl, hB⟩
  have rX8 : Row y7 X 25 (acs a) := rX6.old hB
  have rY8 : Row y7 Y 25 (acs b) := rY6.old hB
  have dl8 : Rd y7 (p) (l) := dl6.below hB
  have bel8 : Below w.heap.size w y7 := below_step bel6 bel6.size hB
  clear rX6 rY6 dl6 bel6 hB
  clear hcX hcY
  go_wp2_with (first
    | ((with_reducible refine at_slot 7 ?_); (refine arm_alloc (o := ⟨some 7, _, _, _, _, _⟩) rfl _ rfl (acs za) z_acc ?_); intro U v9a Ue hUa nU)
    | ((with_reducible refine arm_store (o := ⟨none, _, _, _, _, _⟩) rfl _ _ _ rfl U 0 rfl (acs u) rfl _ _ hUa (fitA u) (acs_one u) (sz_acc u) ?_); intro v9 hUb oU sU)
    | ((with_reducible refine at_slot 59 ?_); (refine arm_load (o := ⟨some 59, _, _, _, _, _⟩) rfl _ _ rfl X 0 rfl (acs a) ((Has.refl _).range ((rX8.old nU.below).only oU (by have := Ue.out; have := rX8.lt; omega))) (sz_acc a) ?_)))
  have lU : y7.heap.size ≤ U := by have := Ue.out; omega
  have bU : Below y7.heap.size y7 v9 := below_only nU.below oU lU nU.below.size
  have rrU : Row v9 U 25 (acs u) := hUb.congr (allA u)
  clear hUa hUb nU oU sU Ue lU
  have rX10 : Row v9 X 25 (acs a) := rX8.old bU
  have rY10 : Row v9 Y 25 (acs b) := rY8.old bU
  have dl10 : Rd v9 (p) (l) := dl8.below bU
  have bel10 : Below w.heap.size w v9 := below_step bel8 bel8.size bU
  clear rX8 rY8 dl8 bel8 bU
  clear rrU
  refine (Ca.out _).mono ?_
  rintro e y11 ⟨⟨qx, cx, rfl, rdx, hnx⟩, hB⟩
  clear hnx
  have rX12 : Row y11 X 25 (acs a) := rX10.old hB
  have rY12 : Row y11 Y 25 (acs b) := rY10.old hB
  have dl12 : Rd y11 (p) (l) := dl10.below hB
  have bel12 : Below w.heap.size w y11 := below_step bel10 bel10.size hB
  clear rX10 rY10 dl10 bel10 hB
  go_wp2_with (first
    | ((with_reducible refine at_slot 64 ?_); (refine arm_load (o := ⟨some 64, _, _, _, _, _⟩) rfl _ _ rfl Y 0 rfl (acs b) ((Has.refl _).range rY12) (sz_acc b) ?_)))
  refine (Cb.out _).mono ?_
  rintro e y13 ⟨⟨qy, cy, rfl, rdy, hny⟩, hB⟩
  clear hny
  have rX14 : Row y13 X 25 (acs a) := rX12.old hB
  have rY14 : Row y13 Y 25 (acs b) := rY12.old hB
  have dl14 : Rd y13 (p) (l) := dl12.below hB
  have dx14 : Rd y13 (qx) ([]) := rdx.below hB
  have bel14 : Below w.heap.size w y13 := below_step bel12 bel12.size hB
  clear rX12 rY12 dl12 rdx bel12 hB
  clear dx14
  clear rdy
  go_wp2_with (first
    | ((with_reducible refine at_slot 76 ?_); (refine arm_load (o := ⟨some 76, _, _, _, _, _⟩) rfl _ _ rfl X 0 rfl (acs a) ((Has.refl _).range rX14) (sz_acc a) ?_)))
  refine (Car.out _).mono ?_
  rintro e y15 ⟨rfl, hB⟩
  have rX16 : Row y15 X 25 (acs a) := rX14.old hB
  have rY16 : Row y15 Y 25 (acs b) := rY14.old hB
  have dl16 : Rd y15 (p) (l) := dl14.below hB
  have bel16 : Below w.heap.size w y15 := below_step bel14 bel14.size hB
  clear rX14 rY14 dl14 bel14 hB
  go_wp2_with (first
    | ((with_reducible refine at_slot 78 ?_); (refine arm_want (.bool true) 78 rfl (by kernel_rfl) (run_op_eqlBB _ _ _ rfl false false rfl rfl true rfl _) ?_))
    | ((with_reducible refine at_slot 82 ?_); (refine arm_want (.agg (acs b).toArray) 82 rfl (by kernel_rfl) (run_op_load _ _ rfl Y 0 rfl (acs b) ((Has.refl _).range rY16) (sz_acc b)) ?_)))
  refine (Cbr.out _).mono ?_
  rintro e y17 ⟨rfl, hB⟩
  have rX18 : Row y17 X 25 (acs a) := rX16.old hB
  have rY18 : Row y17 Y 25 (acs b) := rY16.old hB
  have dl18 : Rd y17 (p) (l) := dl16.below hB
  have bel18 : Below w.heap.size w y17 := below_step bel16 bel16.size hB
  clear rX16 rY16 dl16 bel16 hB
  go_wp2_with (first
    | ((with_reducible refine at_slot 84 ?_); (refine arm_want (.bool true) 84 rfl (by kernel_rfl) (run_op_eqlBB _ _ _ rfl false false rfl rfl true rfl _) ?_)))
  go_ret
  exact ⟨rfl, bel18⟩
theorem accountBack_any (a b : Acct) (l : List Nat) (p : Option Addr) (cap : Nat) (w : World) (ka : a.Ok) (kb : b.Ok) (hp : Rd w p l) (hn : p = none → l.length = 0 ∧ cap = 0) (hlt : AllLt 256 l) (hk : w.rangeAt 1 0 (u32s ks)) (hk2 : w.rangeAt 0 0 (u32s ks)) :
    Calls Tryd.prog 4 #[.agg (acs a).toArray, .agg (acs b).toArray, .slice p l.length cap] w fun e w' => e = .returned (.bool true) ∧ Below w.heap.size w w' := by
  by_cases hl : 300 < a.nm.size ∨ 300 < b.nm.size ∨ 300 < l.length
  · exact back_long a b l p cap w ka kb hp hn hlt hk hk2 hl
  have h1 : a.nm.size ≤ 300 := by omega
  have h2 : b.nm.size ≤ 300 := by omega
  have h3 : l.length ≤ 300 := by omega
  by_cases hg : (rdA l).2 = 0 <;> by_cases ra : NRt a.nm <;> by_cases rb : NRt b.nm
  · exact back_grr a b l p cap w ka kb hp hn hlt hk hk2 h1 h2 h3 hg ra rb
  · exact back_grx a b l p cap w ka kb hp hn hlt hk hk2 h1 h2 h3 hg ra rb
  · exact back_gxr a b l p cap w ka kb hp hn hlt hk hk2 h1 h2 h3 hg ra rb
  · exact back_gxx a b l p cap w ka kb hp hn hlt hk hk2 h1 h2 h3 hg ra rb
  · exact back_nrr a b l p cap w ka kb hp hn hlt hk hk2 h1 h2 h3 hg ra rb
  · exact back_nrx a b l p cap w ka kb hp hn hlt hk hk2 h1 h2 h3 hg ra rb
  · exact back_nxr a b l p cap w ka kb hp hn hlt hk hk2 h1 h2 h3 hg ra rb
  · exact back_nxx a b l p cap w ka kb hp hn hlt hk hk2 h1 h2 h3 hg ra rb
end Go.Proofs.YteomndfalonncaaDoor.Ac
