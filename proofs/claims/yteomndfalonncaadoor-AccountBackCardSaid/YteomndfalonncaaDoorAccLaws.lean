/-
  The walk of layer 14's statement AccountTells, out of the contracts: it returns true, and changes nothing that was there. Over this seat's translation.
-/
import Derived.Test.YteomndfalonncaaDoorAccAwake
import Derived.Test.YteomndfalonncaaDoorAccRRead
namespace Go.Proofs.YteomndfalonncaaDoor.Ac
open Go.ChangeShapes Go.WideShapes Go.ChangeAt Go.RowKit Go.Proofs.YteomndfalonncaaDoor.Mem Go.Proofs.YteomndfalonncaaDoor.Bt Go.Proofs.YteomndfalonncaaDoor.Wi Go.Proofs.YteomndfalonncaaDoor.Sha
open Go.Proofs.YteomndfalonncaaDoor.Tg (bytesOf bytesOf_length bytesOf_lt bytesOf_inj Rd Rd.below Parts parts_one arm_one tagD tagD_len tagOf_any refTag_any)
open Go.Proofs.YteomndfalonncaaDoor.Ep (H32 zh zh_ok Has h_len szH zH fitH allH)
set_option linter.unusedVariables false
set_option linter.unusedSimpArgs false

theorem run_op_eqlBB {o : Oper} {a : Act} (x y : Operand) (t' : TypeId) (ho : o.op = .binOp .eql 4 x y t') (p q : Bool) (hx : a.eval x = .bool p) (hy : a.eval y = .bool q) (r : Bool) (hr : (p == q) = r) (w : World) : (execOp a.eval o).run Tryd.prog w = .ok (.value (.bool r)) w := by
  subst hr
  unfold execOp
  cases p <;> cases q <;> simp only [ho, hx, hy] <;> kernel_rfl
theorem run_op_eqlZ {o : Oper} {a : Act} (x y : Operand) (t' : TypeId) (ho : o.op = .binOp .eql 29 x y t') (m n : Int) (hx : a.eval x = .int .i64 m) (hy : a.eval y = .int .i64 n) (b : Bool) (hb : (m == n) = b) (w : World) : (execOp a.eval o).run Tryd.prog w = .ok (.value (.bool b)) w := by
  subst hb
  exact run_op_eqlI _ t' .i64 (by kernel_rfl) x y ho .i64 m n hx hy w
/-- Some bytes, and what went wrong. -/
structure BPost (w : World) (bs : List Nat) (n : Nat) (z : Int) (e : Ending) (w' : World) : Prop where
  ex : ∃ q c, e = .returned (.tuple #[.slice q n c, .int .i64 z]) ∧ Rd w' q bs ∧ (q = none → bs.length = 0 ∧ c = 0) ∧ bs.length ≤ c
  bel : Below w.heap.size w w'
theorem bytes_at (a : Acct) (w : World) (k : a.Ok) (n : Nat) (hn : (ansB a).length = n) (z : Int) (hz : (ansE a : Int) = z) : Calls Tryd.prog 6 #[.agg (acs a).toArray] w (BPost w (ansB a) n z) := by
  subst hn hz
  exact (abytes_any a w k).mono fun e w' h => by
    obtain ⟨q, c, h1, h2⟩ := h.ex
    exact ⟨⟨q, c, h1, h2.rd, own_none h2, h2.at.1⟩, h.bel⟩
theorem rbytes_at (a : Acct) (w : World) (k : a.Ok) (n : Nat) (hn : (ansB a).length = n) (z : Int) (hz : (ansE a : Int) = z) : Calls Tryd.prog 7 #[.agg (acs a).toArray] w (BPost w (ansB a) n z) := by
  subst hn hz
  exact (rbytes_any a w k).mono fun e w' h => by
    obtain ⟨q, c, h1, h2⟩ := h.ex
    exact ⟨⟨q, c, h1, h2.rd, own_none h2, h2.at.1⟩, h.bel⟩
set_option maxHeartbeats 4000000 in
set_option maxRecDepth 100000 in
theorem accountTells_any (a : Acct) (b : List Nat) (p : Option Addr) (cap : Nat) (w : World) (k : a.Ok) (hp : Rd w p b) (hcp : b.length ≤ cap) (hn : p = none → cap = 0) (hlt : AllLt 256 b) (hk : w.rangeAt 1 0 (u32s ks)) (hk2 : w.rangeAt 0 0 (u32s ks)) :
    Calls Tryd.prog 3 #[.agg (acs a).toArray, .slice p b.length cap] w fun e w' => e = .returned (.bool true) ∧ Below w.heap.size w w' := by
  have hk1 : 1 < w.heap.size := range_lt hk (by simp [u32s, ks])
  have HKW : Hid (∀ w', Below w.heap.size w w' → w'.rangeAt 1 0 (u32s ks)) := Lib.hid fun w' hb => range_block hk (hb.block _ hk1)
  have hk3 : 0 < w.heap.size := range_lt hk2 (by simp [u32s, ks])
  have HKW2 : Hid (∀ w', Below w.heap.size w w' → w'.rangeAt 0 0 (u32s ks)) := Lib.hid fun w' hb => range_block hk2 (hb.block _ hk3)
  clear hk hk1 hk2 hk3
  have CA := Lib.hid (fun w0 h1 h2 => awake_any w0 h1 h2)
  have c0 : (acs a)[0]? = some (.string a.nm) := rfl
  obtain ⟨s, hs⟩ : ∃ s, s = a.nm := ⟨_, rfl⟩
  rw [← hs] at c0
  have C0 := Lib.hid c0
  clear c0 hs
  have HP := Lib.hid hp
  have HN0 : Hid (p = none → b.length = 0 ∧ cap = 0) := Lib.hid fun e => ⟨by have := hn e; omega, hn e⟩
  by_cases h0 : 300 < s.size
  · have d1 : decide ((300 : Int) < (s.size : Int)) = true := decide_eq_true (by omega)
    have d1' : decide (300 < s.size) = true := decide_eq_true (by omega)
    clear hp hcp hn hlt k h0
    go_enter Tryd.func3, Tryd.ntmps3
    go_wp2_with (first
      | ((with_reducible refine at_slot 2 ?_); (refine arm_box (o := ⟨some 2, _, _, _, _, _⟩) rfl _ _ rfl (acs a) rfl ?_); intro X v1 Xe hv1 nv1))
    have hbv1 := nv1.below
    have rrv1 : Row v1 X 25 (acs a) := hv1
    clear hv1 nv1 Xe
    have bel2 : Below w.heap.size w v1 := hbv1
    clear hbv1
    refine (CA.out _ (HKW.out _ bel2) (HKW2.out _ bel2)).mono ?_
    rintro e y3 ⟨rfl, hB⟩
    have rX4 : Row y3 X 25 (acs a) := rrv1.old hB
    have bel4 : Below w.heap.size w y3 := below_step bel2 bel2.size hB
    clear rrv1 bel2 hB
    have hc := rX4.cell C0.out
    go_wp2_with fail
    go_ret
    exact ⟨rfl, bel4⟩
  by_cases h1 : 300 < b.length
  · have d1 : decide ((300 : Int) < (s.size : Int)) = false := decide_eq_false (by omega)
    have d1' : decide (300 < s.size) = false := decide_eq_false (by omega)
    have d2 : decide ((300 : Int) < (b.length : Int)) = true := decide_eq_true (by omega)
    have d2' : decide (300 < b.length) = true := decide_eq_true (by omega)
    clear hp hcp hn hlt k h0 h1
    go_enter Tryd.func3, Tryd.ntmps3
    go_wp2_with (first
      | ((with_reducible refine at_slot 2 ?_); (refine arm_box (o := ⟨some 2, _, _, _, _, _⟩) rfl _ _ rfl (acs a) rfl ?_); intro X v1 Xe hv1 nv1))
    have hbv1 := nv1.below
    have rrv1 : Row v1 X 25 (acs a) := hv1
    clear hv1 nv1 Xe
    have bel2 : Below w.heap.size w v1 := hbv1
    clear hbv1
    refine (CA.out _ (HKW.out _ bel2) (HKW2.out _ bel2)).mono ?_
    rintro e y3 ⟨rfl, hB⟩
    have rX4 : Row y3 X 25 (acs a) := rrv1.old hB
    have bel4 : Below w.heap.size w y3 := below_step bel2 bel2.size hB
    clear rrv1 bel2 hB
    have hc := rX4.cell C0.out
    go_wp2_with fail
    go_ret
    exact ⟨rfl, bel4⟩
  have d1 : decide ((300 : Int) < (s.size : Int)) = false := decide_eq_false (by omega)
  have d1' : decide (300 < s.size) = false := decide_eq_false (by omega)
  have d2 : decide ((300 : Int) < (b.length : Int)) = false := decide_eq_false (by omega)
  have d2' : decide (300 < b.length) = false := decide_eq_false (by omega)
  have hl : b.length ≤ 300 := by omega
  have CD := Lib.hid (fun w0 (h : Rd w0 p b) => (aread_any b p cap w0 h HN0.out (by omega) hlt).mono (fun e w' h => (⟨h.ret, h.bel⟩ : e = .returned (.tuple #[.agg (acs (rdA b).1).toArray, .int .i64 ((rdA b).2 : Int)]) ∧ Below w0.heap.size w0 w')))
  have CE := Lib.hid (fun w0 (h : Rd w0 p b) => (rread_any b p cap w0 h hcp hn (by omega) hlt).mono (fun e w' h => (⟨h.ret, h.bel⟩ : e = .returned (.tuple #[.agg (acs (rdA b).1).toArray, .int .i64 ((rdA b).2 : Int)]) ∧ Below w0.heap.size w0 w')))
  obtain ⟨u, hu⟩ : ∃ u, u = (rdA b).1 := ⟨_, rfl⟩
  obtain ⟨f, hf⟩ : ∃ f : Int, f = ((rdA b).2 : Int) := ⟨_, rfl⟩
  rw [← hu, ← hf] at CD CE
  obtain ⟨nb, hnb⟩ : ∃ n, (ansB a).length = n := ⟨_, rfl⟩
  obtain ⟨ze, hze⟩ : ∃ z : Int, (ansE a : Int) = z := ⟨_, rfl⟩
  have CB := Lib.hid (fun w0 => bytes_at a w0 k nb hnb ze hze)
  have CC := Lib.hid (fun w0 => rbytes_at a w0 k nb hnb ze hze)
  have CH := Lib.hid (fun w0 h => (ahash_any a w0 k h).mono (fun e w' h => (⟨h.ret, h.bel⟩ : e = .returned (.tuple #[.agg (u8s (ansH a)).toArray, .int .i64 (ansE a : Int)]) ∧ Below w0.heap.size w0 w')))
  have CI := Lib.hid (fun w0 h => (rhash_any a w0 k h).mono (fun e w' h => (⟨h.ret, h.bel⟩ : e = .returned (.tuple #[.agg (u8s (ansH a)).toArray, .int .i64 (ansE a : Int)]) ∧ Below w0.heap.size w0 w')))
  rw [hze] at CH CI
  have KH := Lib.hid (ansH_ok a)
  have hb21 := ansB_len a
  have CS := Lib.hid (fun (q r : Option Addr) (c d : Nat) (w0 : World) (h1 : Rd w0 q (ansB a)) (h2 : Rd w0 r (ansB a)) => same_at (ansB a) (ansB a) q r c d nb nb hnb.symm hnb.symm w0 h1 h2 (by omega) (by omega))
  rw [decide_eq_true rfl] at CS
  have CR := Lib.hid (fun w0 => aright_any a w0)
  have CQ := Lib.hid (fun w0 => rright_any a w0)
  obtain ⟨v, hv⟩ : ∃ v, v = decide (NRt a.nm) := ⟨_, rfl⟩
  rw [← hv] at CR CQ
  obtain ⟨hh, hhh⟩ : ∃ x, x = ansH a := ⟨_, rfl⟩
  rw [← hhh] at CH CI KH
  obtain ⟨bs, hbs⟩ : ∃ x, x = ansB a := ⟨_, rfl⟩
  rw [← hbs] at CB CC CS
  clear hp hcp hn hlt k h0 h1 hl hu hf hnb hze hb21 hv hhh hbs
  go_enter Tryd.func3, Tryd.ntmps3
  go_wp2_with (first
    | ((with_reducible refine at_slot 2 ?_); (refine arm_box (o := ⟨some 2, _, _, _, _, _⟩) rfl _ _ rfl (acs a) rfl ?_); intro X v1 Xe hv1 nv1))
  have hbv1 := nv1.below
  have rrv1 : Row v1 X 25 (acs a) := hv1
  clear hv1 nv1 Xe
  have bel2 : Below w.heap.size w v1 := hbv1
  clear hbv1
  have rdb := HP.out.below bel2
  refine (CA.out _ (HKW.out _ bel2) (HKW2.out _ bel2)).mono ?_
  rintro e y3 ⟨rfl, hB⟩
  have rX4 : Row y3 X 25 (acs a) := rrv1.old hB
  have dB4 : Rd y3 (p) (b) := rdb.below hB
  have bel4 : Below w.heap.size w y3 := below_step bel2 bel2.size hB
  clear rrv1 rdb bel2 hB
  have hc := rX4.cell C0.out
  go_wp2_with (first
    | ((with_reducible refine at_slot 29 ?_); (refine arm_load (o := ⟨some 29, _, _, _, _, _⟩) rfl _ _ rfl X 0 rfl (acs a) ((Has.refl _).range rX4) (sz_acc a) ?_))
    | ((with_reducible refine at_slot 5 ?_); (refine arm_alloc (o := ⟨some 5, _, _, _, _, _⟩) rfl _ rfl (acs za) z_racc ?_); intro Y v5a Ye hYa nY)
    | ((with_reducible refine arm_store (o := ⟨none, _, _, _, _, _⟩) rfl _ _ _ rfl Y 0 rfl (acs a) rfl _ _ hYa (fitA a) (acs_one a) (sz_racc a) ?_); intro v5 hYb oY sY)
    | ((with_reducible refine at_slot 31 ?_); (refine arm_load (o := ⟨some 31, _, _, _, _, _⟩) rfl _ _ rfl X 0 rfl (acs a) ((Has.refl _).range ((rX4.old nY.below).only oY (by have := Ye.out; have := rX4.lt; omega))) (sz_acc a) ?_)))
  have lY : y3.heap.size ≤ Y := by have := Ye.out; omega
  have bY : Below y3.heap.size y3 v5 := below_only nY.below oY lY nY.below.size
  have rrY : Row v5 Y 28 (acs a) := hYb.congr (allA a)
  clear hYa hYb nY oY sY Ye lY
  have rX6 : Row v5 X 25 (acs a) := rX4.old bY
  have dB6 : Rd v5 (p) (b) := dB4.below bY
  have bel6 : Below w.heap.size w v5 := below_step bel4 bel4.size bY
  clear rX4 dB4 bel4 bY
  clear hc
  refine (CB.out _).mono ?_
  rintro e y7 ⟨⟨qx, cx, rfl, rdx, hnx⟩, hB⟩
  clear hnx
  have rX8 : Row y7 X 25 (acs a) := rX6.old hB
  have rY8 : Row y7 Y 28 (acs a) := rrY.old hB
  have dB8 : Rd y7 (p) (b) := dB6.below hB
  have bel8 : Below w.heap.size w y7 := below_step bel6 bel6.size hB
  clear rX6 rrY dB6 bel6 hB
  go_wp2_with (first
    | ((with_reducible refine at_slot 36 ?_); (refine arm_load (o := ⟨some 36, _, _, _, _, _⟩) rfl _ _ rfl Y 0 rfl (acs a) ((Has.refl _).range rY8) (sz_racc a) ?_)))
  refine (CC.out _).mono ?_
  rintro e y9 ⟨⟨qy, cy, rfl, rdy, hny⟩, hB⟩
  clear hny
  have rX10 : Row y9 X 25 (acs a) := rX8.old hB
  have rY10 : Row y9 Y 28 (acs a) := rY8.old hB
  have dB10 : Rd y9 (p) (b) := dB8.below hB
  have dx10 : Rd y9 (qx) (bs) := rdx.below hB
  have bel10 : Below w.heap.size w y9 := below_step bel8 bel8.size hB
  clear rX8 rY8 dB8 rdx bel8 hB
  go_wp2_with (first
    | ((with_reducible refine at_slot 41 ?_); (refine arm_load (o := ⟨some 41, _, _, _, _, _⟩) rfl _ _ rfl X 0 rfl (acs a) ((Has.refl _).range rX10) (sz_acc a) ?_)))
  refine (CH.out _ (HKW.out _ bel10)).mono ?_
  rintro e y11 ⟨rfl, hB⟩
  have rX12 : Row y11 X 25 (acs a) := rX10.old hB
  have rY12 : Row y11 Y 28 (acs a) := rY10.old hB
  have dB12 : Rd y11 (p) (b) := dB10.below hB
  have dx12 : Rd y11 (qx) (bs) := dx10.below hB
  have dy12 : Rd y11 (qy) (bs) := rdy.below hB
  have bel12 : Below w.heap.size w y11 := below_step bel10 bel10.size hB
  clear rX10 rY10 dB10 dx10 rdy bel10 hB
  go_wp2_with (first
    | ((with_reducible refine at_slot 10 ?_); (refine arm_alloc (o := ⟨some 10, _, _, _, _, _⟩) rfl _ rfl (u8s zh) zH ?_); intro M v13a Me hMa nM)
    | ((with_reducible refine arm_store (o := ⟨none, _, _, _, _, _⟩) rfl _ _ _ rfl M 0 rfl (u8s hh) rfl _ _ hMa (fitH KH.out) (u8s_one _) (szH KH.out) ?_); intro v13 hMb oM sM)
    | ((with_reducible refine at_slot 46 ?_); (refine arm_load (o := ⟨some 46, _, _, _, _, _⟩) rfl _ _ rfl Y 0 rfl (acs a) ((Has.refl _).range ((rY12.old nM.below).only oM (by have := Me.out; have := rY12.lt; omega))) (sz_racc a) ?_)))
  have lM : y11.heap.size ≤ M := by have := Me.out; omega
  have bM : Below y11.heap.size y11 v13 := below_only nM.below oM lM nM.below.size
  have rrM : Row v13 M 34 (u8s hh) := hMb.congr (allH KH.out)
  clear hMa hMb nM oM sM Me lM
  have rX14 : Row v13 X 25 (acs a) := rX12.old bM
  have rY14 : Row v13 Y 28 (acs a) := rY12.old bM
  have dB14 : Rd v13 (p) (b) := dB12.below bM
  have dx14 : Rd v13 (qx) (bs) := dx12.below bM
  have dy14 : Rd v13 (qy) (bs) := dy12.below bM
  have bel14 : Below w.heap.size w v13 := below_step bel12 bel12.size bM
  clear rX12 rY12 dB12 dx12 dy12 bel12 bM
  refine (CI.out _ (HKW2.out _ bel14)).mono ?_
  rintro e y15 ⟨rfl, hB⟩
  have rX16 : Row y15 X 25 (acs a) := rX14.old hB
  have rY16 : Row y15 Y 28 (acs a) := rY14.old hB
  have rM16 : Row y15 M 34 (u8s hh) := rrM.old hB
  have dB16 : Rd y15 (p) (b) := dB14.below hB
  have dx16 : Rd y15 (qx) (bs) := dx14.below hB
  have dy16 : Rd y15 (qy) (bs) := dy14.below hB
  have bel16 : Below w.heap.size w y15 := below_step bel14 bel14.size hB
  clear rX14 rY14 rrM dB14 dx14 dy14 bel14 hB
  go_wp2_with (first
    | ((with_reducible refine at_slot 12 ?_); (refine arm_alloc (o := ⟨some 12, _, _, _, _, _⟩) rfl _ rfl (u8s zh) zH ?_); intro N v17a Ne hNa nN)
    | ((with_reducible refine arm_store (o := ⟨none, _, _, _, _, _⟩) rfl _ _ _ rfl N 0 rfl (u8s hh) rfl _ _ hNa (fitH KH.out) (u8s_one _) (szH KH.out) ?_); intro v17 hNb oN sN))
  have lN : y15.heap.size ≤ N := by have := Ne.out; omega
  have bN : Below y15.heap.size y15 v17 := below_only nN.below oN lN nN.below.size
  have rrN : Row v17 N 34 (u8s hh) := hNb.congr (allH KH.out)
  clear hNa hNb nN oN sN Ne lN
  have rX18 : Row v17 X 25 (acs a) := rX16.old bN
  have rY18 : Row v17 Y 28 (acs a) := rY16.old bN
  have rM18 : Row v17 M 34 (u8s hh) := rM16.old bN
  have dB18 : Rd v17 (p) (b) := dB16.below bN
  have dx18 : Rd v17 (qx) (bs) := dx16.below bN
  have dy18 : Rd v17 (qy) (bs) := dy16.below bN
  have bel18 : Below w.heap.size w v17 := below_step bel16 bel16.size bN
  clear rX16 rY16 rM16 dB16 dx16 dy16 bel16 bN
  refine (CD.out _ dB18).mono ?_
  rintro e y19 ⟨rfl, hB⟩
  have rX20 : Row y19 X 25 (acs a) := rX18.old hB
  have rY20 : Row y19 Y 28 (acs a) := rY18.old hB
  have rM20 : Row y19 M 34 (u8s hh) := rM18.old hB
  have rN20 : Row y19 N 34 (u8s hh) := rrN.old hB
  have dB20 : Rd y19 (p) (b) := dB18.below hB
  have dx20 : Rd y19 (qx) (bs) := dx18.below hB
  have dy20 : Rd y19 (qy) (bs) := dy18.below hB
  have bel20 : Below w.heap.size w y19 := below_step bel18 bel18.size hB
  clear rX18 rY18 rM18 rrN dB18 dx18 dy18 bel18 hB
  go_wp2_with (first
    | ((with_reducible refine at_slot 14 ?_); (refine arm_alloc (o := ⟨some 14, _, _, _, _, _⟩) rfl _ rfl (acs za) z_acc ?_); intro U v21a Ue hUa nU)
    | ((with_reducible refine arm_store (o := ⟨none, _, _, _, _, _⟩) rfl _ _ _ rfl U 0 rfl (acs u) rfl _ _ hUa (fitA u) (acs_one u) (sz_acc u) ?_); intro v21 hUb oU sU))
  have lU : y19.heap.size ≤ U := by have := Ue.out; omega
  have bU : Below y19.heap.size y19 v21 := below_only nU.below oU lU nU.below.size
  have rrU : Row v21 U 25 (acs u) := hUb.congr (allA u)
  clear hUa hUb nU oU sU Ue lU
  have rX22 : Row v21 X 25 (acs a) := rX20.old bU
  have rY22 : Row v21 Y 28 (acs a) := rY20.old bU
  have rM22 : Row v21 M 34 (u8s hh) := rM20.old bU
  have rN22 : Row v21 N 34 (u8s hh) := rN20.old bU
  have dB22 : Rd v21 (p) (b) := dB20.below bU
  have dx22 : Rd v21 (qx) (bs) := dx20.below bU
  have dy22 : Rd v21 (qy) (bs) := dy20.below bU
  have bel22 : Below w.heap.size w v21 := below_step bel20 bel20.size bU
  clear rX20 rY20 rM20 rN20 dB20 dx20 dy20 bel20 bU
  refine (CE.out _ dB22).mono ?_
  rintro e y23 ⟨rfl, hB⟩
  have rX24 : Row y23 X 25 (acs a) := rX22.old hB
  have rY24 : Row y23 Y 28 (acs a) := rY22.old hB
  have rM24 : Row y23 M 34 (u8s hh) := rM22.old hB
  have rN24 : Row y23 N 34 (u8s hh) := rN22.old hB
  have rU24 : Row y23 U 25 (acs u) := rrU.old hB
  have dB24 : Rd y23 (p) (b) := dB22.below hB
  have dx24 : Rd y23 (qx) (bs) := dx22.below hB
  have dy24 : Rd y23 (qy) (bs) := dy22.below hB
  have bel24 : Below w.heap.size w y23 := below_step bel22 bel22.size hB
  clear rX22 rY22 rM22 rN22 rrU dB22 dx22 dy22 bel22 hB
  go_wp2_with (first
    | ((with_reducible refine at_slot 16 ?_); (refine arm_alloc (o := ⟨some 16, _, _, _, _, _⟩) rfl _ rfl (acs za) z_racc ?_); intro V v25a Ve hVa nV)
    | ((with_reducible refine arm_store (o := ⟨none, _, _, _, _, _⟩) rfl _ _ _ rfl V 0 rfl (acs u) rfl _ _ hVa (fitA u) (acs_one u) (sz_racc u) ?_); intro v25 hVb oV sV))
  have lV : y23.heap.size ≤ V := by have := Ve.out; omega
  have bV : Below y23.heap.size y23 v25 := below_only nV.below oV lV nV.below.size
  have rrV : Row v25 V 28 (acs u) := hVb.congr (allA u)
  clear hVa hVb nV oV sV Ve lV
  have rX26 : Row v25 X 25 (acs a) := rX24.old bV
  have rY26 : Row v25 Y 28 (acs a) := rY24.old bV
  have rM26 : Row v25 M 34 (u8s hh) := rM24.old bV
  have rN26 : Row v25 N 34 (u8s hh) := rN24.old bV
  have rU26 : Row v25 U 25 (acs u) := rU24.old bV
  have dB26 : Rd v25 (p) (b) := dB24.below bV
  have dx26 : Rd v25 (qx) (bs) := dx24.below bV
  have dy26 : Rd v25 (qy) (bs) := dy24.below bV
  have bel26 : Below w.heap.size w v25 := below_step bel24 bel24.size bV
  clear rX24 rY24 rM24 rN24 rU24 dB24 dx24 dy24 bel24 bV
  refine wp_region_held (S := fun w' => Below v25.heap.size v25 w') (by kernel_rfl) ?_
  change wpAnyH _ _ _ _ _ _ _ _ v25.drew
  have hS : Below v25.heap.size v25 v25.drew := (Below.refl _ _).drew
  generalize v25.drew = yz at hS ⊢
  refine h_take 0 (.agg (acs a).toArray) rfl 60 rfl (by kernel_rfl) (by kernel_rfl) (by kernel_rfl) (by kernel_rfl) (fun _ _ _ h => h) (fun w' hw => run_op_load _ _ rfl X 0 rfl (acs a) ((Has.refl _).range (rX26.old hw)) (sz_acc a)) hS ?_
  simp only [Act.put, List.setIfInBounds_toArray, List.set_cons_zero, List.set_cons_succ]
  refine h_take 2 (.agg (acs a).toArray) rfl 62 rfl (by kernel_rfl) (by kernel_rfl) (by kernel_rfl) (by kernel_rfl) (fun _ _ _ h => h) (fun w' hw => run_op_load _ _ rfl Y 0 rfl (acs a) ((Has.refl _).range (rY26.old hw)) (sz_racc a)) hS ?_
  simp only [Act.put, List.setIfInBounds_toArray, List.set_cons_zero, List.set_cons_succ]
  refine h_one (i := 1) (by kernel_rfl) (o_call rfl 61 rfl (by kernel_rfl) (run_op_call 12 _ _ rfl #[.agg (acs a).toArray] (by simp only [List.map_toArray, List.map_cons, List.map_nil]; rfl) Tryd.func12 (by kernel_rfl) (by kernel_rfl) _) (CR.out _) ?_)
  rintro e yz1 ⟨rfl, hB⟩
  have hS1 : Below v25.heap.size v25 yz1 := below_step hS hS.size hB
  clear hB hS
  refine ⟨_, rfl, hS1, ?_⟩
  simp only [Act.put, List.setIfInBounds_toArray, List.set_cons_zero, List.set_cons_succ]
  refine h_one (i := 3) (by kernel_rfl) (o_call rfl 63 rfl (by kernel_rfl) (run_op_call 13 _ _ rfl #[.agg (acs a).toArray] (by simp only [List.map_toArray, List.map_cons, List.map_nil]; rfl) Tryd.func13 (by kernel_rfl) (by kernel_rfl) _) (CQ.out _) ?_)
  rintro e yz2 ⟨rfl, hB⟩
  have hS2 : Below v25.heap.size v25 yz2 := below_step hS1 hS1.size hB
  clear hB hS1
  refine ⟨_, rfl, hS2, ?_⟩
  simp only [Act.put, List.setIfInBounds_toArray, List.set_cons_zero, List.set_cons_succ]
  refine h_take 4 (.bool true) rfl 64 rfl (by kernel_rfl) (by kernel_rfl) (by kernel_rfl) (by kernel_rfl) (fun _ _ _ h => h) (fun w' _ => run_op_eqlBB _ _ _ rfl v v rfl rfl true (beq_self_eq_true v) w') hS2 ?_
  simp only [Act.put, List.setIfInBounds_toArray, List.set_cons_zero, List.set_cons_succ]
  refine h_take 5 (.bool true) rfl 65 rfl (by kernel_rfl) (by kernel_rfl) (by kernel_rfl) (by kernel_rfl) (fun _ _ _ h => h) (fun w' _ => by kernel_rfl) hS2 ?_
  simp only [Act.put, List.setIfInBounds_toArray, List.set_cons_zero, List.set_cons_succ]
  refine h_take 6 (.slice qx nb cx) rfl 66 rfl (by kernel_rfl) (by kernel_rfl) (by kernel_rfl) (by kernel_rfl) (fun _ _ _ h => h) (fun w' _ => by kernel_rfl) hS2 ?_
  simp only [Act.put, List.setIfInBounds_toArray, List.set_cons_zero, List.set_cons_succ]
  refine h_take 7 (.slice qy nb cy) rfl 67 rfl (by kernel_rfl) (by kernel_rfl) (by kernel_rfl) (by kernel_rfl) (fun _ _ _ h => h) (fun w' _ => by kernel_rfl) hS2 ?_
  simp only [Act.put, List.setIfInBounds_toArray, List.set_cons_zero, List.set_cons_succ]
  refine h_one (i := 8) (by kernel_rfl) (o_call rfl 68 rfl (by kernel_rfl) (run_op_call 14 _ _ rfl #[.slice qx nb cx, .slice qy nb cy] (by simp only [List.map_toArray, List.map_cons, List.map_nil]; rfl) Tryd.func14 (by kernel_rfl) (by kernel_rfl) _) (CS.out qx qy cx cy _ (dx26.below hS2) (dy26.below hS2)) ?_)
  rintro e yz3 ⟨rfl, hB⟩
  have hS3 : Below v25.heap.size v25 yz3 := below_step hS2 hS2.size hB
  clear hB hS2
  refine ⟨_, rfl, hS3, ?_⟩
  simp only [Act.put, List.setIfInBounds_toArray, List.set_cons_zero, List.set_cons_succ]
  refine h_take 9 (.bool true) rfl 69 rfl (by kernel_rfl) (by kernel_rfl) (by kernel_rfl) (by kernel_rfl) (fun _ _ _ h => h) (fun w' _ => by kernel_rfl) hS3 ?_
  simp only [Act.put, List.setIfInBounds_toArray, List.set_cons_zero, List.set_cons_succ]
  refine h_take 10 (.bool true) rfl 70 rfl (by kernel_rfl) (by kernel_rfl) (by kernel_rfl) (by kernel_rfl) (fun _ _ _ h => h) (fun w' _ => by kernel_rfl) hS3 ?_
  simp only [Act.put, List.setIfInBounds_toArray, List.set_cons_zero, List.set_cons_succ]
  refine h_take 11 (.int .i64 ze) rfl 71 rfl (by kernel_rfl) (by kernel_rfl) (by kernel_rfl) (by kernel_rfl) (fun _ _ _ h => h) (fun w' _ => by kernel_rfl) hS3 ?_
  simp only [Act.put, List.setIfInBounds_toArray, List.set_cons_zero, List.set_cons_succ]
  refine h_take 12 (.int .i64 ze) rfl 72 rfl (by kernel_rfl) (by kernel_rfl) (by kernel_rfl) (by kernel_rfl) (fun _ _ _ h => h) (fun w' _ => by kernel_rfl) hS3 ?_
  simp only [Act.put, List.setIfInBounds_toArray, List.set_cons_zero, List.set_cons_succ]
  refine h_take 13 (.bool true) rfl 73 rfl (by kernel_rfl) (by kernel_rfl) (by kernel_rfl) (by kernel_rfl) (fun _ _ _ h => h) (fun w' _ => run_op_eqlZ _ _ _ rfl ze ze rfl rfl true (beq_self_eq_true ze) w') hS3 ?_
  simp only [Act.put, List.setIfInBounds_toArray, List.set_cons_zero, List.set_cons_succ]
  refine h_take 14 (.bool true) rfl 74 rfl (by kernel_rfl) (by kernel_rfl) (by kernel_rfl) (by kernel_rfl) (fun _ _ _ h => h) (fun w' _ => by kernel_rfl) hS3 ?_
  simp only [Act.put, List.setIfInBounds_toArray, List.set_cons_zero, List.set_cons_succ]
  refine h_take 15 (.bool true) rfl 75 rfl (by kernel_rfl) (by kernel_rfl) (by kernel_rfl) (by kernel_rfl) (fun _ _ _ h => h) (fun w' _ => by kernel_rfl) hS3 ?_
  simp only [Act.put, List.setIfInBounds_toArray, List.set_cons_zero, List.set_cons_succ]
  refine h_take 16 (.agg (u8s hh).toArray) rfl 76 rfl (by kernel_rfl) (by kernel_rfl) (by kernel_rfl) (by kernel_rfl) (fun _ _ _ h => h) (fun w' hw => run_op_load _ _ rfl M 0 rfl (u8s hh) ((Has.refl _).range (rM26.old hw)) (szH KH.out)) hS3 ?_
  simp only [Act.put, List.setIfInBounds_toArray, List.set_cons_zero, List.set_cons_succ]
  refine h_take 17 (.agg (u8s hh).toArray) rfl 77 rfl (by kernel_rfl) (by kernel_rfl) (by kernel_rfl) (by kernel_rfl) (fun _ _ _ h => h) (fun w' hw => run_op_load _ _ rfl N 0 rfl (u8s hh) ((Has.refl _).range (rN26.old hw)) (szH KH.out)) hS3 ?_
  simp only [Act.put, List.setIfInBounds_toArray, List.set_cons_zero, List.set_cons_succ]
  refine h_take 18 (.bool true) rfl 78 rfl (by kernel_rfl) (by kernel_rfl) (by kernel_rfl) (by kernel_rfl) (fun _ _ _ h => h) (fun w' _ => run_op_eqlD _ _ _ rfl hh hh KH.out.len KH.out.len rfl rfl true (decide_eq_true rfl) w') hS3 ?_
  simp only [Act.put, List.setIfInBounds_toArray, List.set_cons_zero, List.set_cons_succ]
  refine h_take 19 (.bool true) rfl 79 rfl (by kernel_rfl) (by kernel_rfl) (by kernel_rfl) (by kernel_rfl) (fun _ _ _ h => h) (fun w' _ => by kernel_rfl) hS3 ?_
  simp only [Act.put, List.setIfInBounds_toArray, List.set_cons_zero, List.set_cons_succ]
  refine h_take 20 (.bool true) rfl 80 rfl (by kernel_rfl) (by kernel_rfl) (by kernel_rfl) (by kernel_rfl) (fun _ _ _ h => h) (fun w' _ => by kernel_rfl) hS3 ?_
  simp only [Act.put, List.setIfInBounds_toArray, List.set_cons_zero, List.set_cons_succ]
  refine h_take 21 (.int .i64 ze) rfl 81 rfl (by kernel_rfl) (by kernel_rfl) (by kernel_rfl) (by kernel_rfl) (fun _ _ _ h => h) (fun w' _ => by kernel_rfl) hS3 ?_
  simp only [Act.put, List.setIfInBounds_toArray, List.set_cons_zero, List.set_cons_succ]
  refine h_take 22 (.int .i64 ze) rfl 82 rfl (by kernel_rfl) (by kernel_rfl) (by kernel_rfl) (by kernel_rfl) (fun _ _ _ h => h) (fun w' _ => by kernel_rfl) hS3 ?_
  simp only [Act.put, List.setIfInBounds_toArray, List.set_cons_zero, List.set_cons_succ]
  refine h_take 23 (.bool true) rfl 83 rfl (by kernel_rfl) (by kernel_rfl) (by kernel_rfl) (by kernel_rfl) (fun _ _ _ h => h) (fun w' _ => run_op_eqlZ _ _ _ rfl ze ze rfl rfl true (beq_self_eq_true ze) w') hS3 ?_
  simp only [Act.put, List.setIfInBounds_toArray, List.set_cons_zero, List.set_cons_succ]
  refine h_take 24 (.bool true) rfl 84 rfl (by kernel_rfl) (by kernel_rfl) (by kernel_rfl) (by kernel_rfl) (fun _ _ _ h => h) (fun w' _ => by kernel_rfl) hS3 ?_
  simp only [Act.put, List.setIfInBounds_toArray, List.set_cons_zero, List.set_cons_succ]
  refine h_take 25 (.bool true) rfl 85 rfl (by kernel_rfl) (by kernel_rfl) (by kernel_rfl) (by kernel_rfl) (fun _ _ _ h => h) (fun w' _ => by kernel_rfl) hS3 ?_
  simp only [Act.put, List.setIfInBounds_toArray, List.set_cons_zero, List.set_cons_succ]
  refine h_take 26 (.agg (acs u).toArray) rfl 86 rfl (by kernel_rfl) (by kernel_rfl) (by kernel_rfl) (by kernel_rfl) (fun _ _ _ h => h) (fun w' hw => run_op_load _ _ rfl U 0 rfl (acs u) ((Has.refl _).range (rU26.old hw)) (sz_acc u)) hS3 ?_
  simp only [Act.put, List.setIfInBounds_toArray, List.set_cons_zero, List.set_cons_succ]
  refine h_take 27 (.agg (acs u).toArray) rfl 87 rfl (by kernel_rfl) (by kernel_rfl) (by kernel_rfl) (by kernel_rfl) (fun _ _ _ h => h) (fun w' hw => run_op_load _ _ rfl V 0 rfl (acs u) ((Has.refl _).range (rrV.old hw)) (sz_racc u)) hS3 ?_
  simp only [Act.put, List.setIfInBounds_toArray, List.set_cons_zero, List.set_cons_succ]
  refine h_take 28 (.bool true) rfl 88 rfl (by kernel_rfl) (by kernel_rfl) (by kernel_rfl) (by kernel_rfl) (fun _ _ _ h => h) (fun w' _ => run_op_eqlRA _ _ _ rfl u u rfl rfl true (by simp) w') hS3 ?_
  simp only [Act.put, List.setIfInBounds_toArray, List.set_cons_zero, List.set_cons_succ]
  refine h_take 29 (.bool true) rfl 89 rfl (by kernel_rfl) (by kernel_rfl) (by kernel_rfl) (by kernel_rfl) (fun _ _ _ h => h) (fun w' _ => by kernel_rfl) hS3 ?_
  simp only [Act.put, List.setIfInBounds_toArray, List.set_cons_zero, List.set_cons_succ]
  refine h_take 30 (.bool true) rfl 90 rfl (by kernel_rfl) (by kernel_rfl) (by kernel_rfl) (by kernel_rfl) (fun _ _ _ h => h) (fun w' _ => by kernel_rfl) hS3 ?_
  simp only [Act.put, List.setIfInBounds_toArray, List.set_cons_zero, List.set_cons_succ]
  refine h_take 31 (.int .i64 f) rfl 91 rfl (by kernel_rfl) (by kernel_rfl) (by kernel_rfl) (by kernel_rfl) (fun _ _ _ h => h) (fun w' _ => by kernel_rfl) hS3 ?_
  simp only [Act.put, List.setIfInBounds_toArray, List.set_cons_zero, List.set_cons_succ]
  refine h_take 32 (.int .i64 f) rfl 92 rfl (by kernel_rfl) (by kernel_rfl) (by kernel_rfl) (by kernel_rfl) (fun _ _ _ h => h) (fun w' _ => by kernel_rfl) hS3 ?_
  simp only [Act.put, List.setIfInBounds_toArray, List.set_cons_zero, List.set_cons_succ]
  refine h_take 33 (.bool true) rfl 93 rfl (by kernel_rfl) (by kernel_rfl) (by kernel_rfl) (by kernel_rfl) (fun _ _ _ h => h) (fun w' _ => run_op_eqlZ _ _ _ rfl f f rfl rfl true (beq_self_eq_true f) w') hS3 ?_
  simp only [Act.put, List.setIfInBounds_toArray, List.set_cons_zero, List.set_cons_succ]
  refine h_take 34 (.bool true) rfl 94 rfl (by kernel_rfl) (by kernel_rfl) (by kernel_rfl) (by kernel_rfl) (fun _ _ _ h => h) (fun w' _ => by kernel_rfl) hS3 ?_
  simp only [Act.put, List.setIfInBounds_toArray, List.set_cons_zero, List.set_cons_succ]
  refine h_take 35 (.bool true) rfl 4 rfl (by kernel_rfl) (by kernel_rfl) (by kernel_rfl) (by kernel_rfl) (fun _ _ _ h => h) (fun w' _ => by kernel_rfl) hS3 ?_
  simp only [Act.put, List.setIfInBounds_toArray, List.set_cons_zero, List.set_cons_succ]
  refine wpAnyH_done (by kernel_rfl) ?_ _
  have belE := below_step bel26 bel26.size hS3
  go_wp2_with fail
  go_ret
  exact ⟨rfl, belE⟩
end Go.Proofs.YteomndfalonncaaDoor.Ac
