/-
  The contract of package state's read, over this seat's translation: all digests of a state are gone through, and read one behind the other.
-/
import Derived.Test.YtghogoijjaiccaaStaBytes
import Derived.Test.YtghogoijjaiccaaWireAll
import Derived.Test.YtghogoijjaiccaaMemAll
namespace Go.Proofs.Ytghogoijjaiccaa.Sa
open Go.ChangeShapes Go.WideShapes Go.ChangeAt Go.RowKit Go.Proofs.Ytghogoijjaiccaa.Mem Go.Proofs.Ytghogoijjaiccaa.Bt Go.Proofs.Ytghogoijjaiccaa.Rf Go.Proofs.Ytghogoijjaiccaa.Wi
open Go.Proofs.Ytghogoijjaiccaa.Tg (Rd Rd.below)
open Go.Proofs.Ytghogoijjaiccaa.Ep (H32 Dat zh zh_ok num32 dcs dcs_len dcs_one zd zd_ok Has h_len one_app one_num szH set_lay)
set_option linter.unusedVariables false
set_option linter.unusedSimpArgs false
attribute [local go_sem] Oper.semAt_some

theorem wp_calm {P : Program} {c : Code} {Q : Exit → Act → World → Prop} {a : Act} {w : World} (h : c.wp P (fun e a' w' => e = .normal ∧ Q .normal a' w') a w) : c.wp P Q a w :=
  wp_mono h (fun e a w h => by obtain ⟨rfl, h⟩ := h; exact h)
theorem rd_alike {w w' : World} {R d : Nat} {s : RS} (h : RdAt w R d s) (ha : Rf.Alike w w') : RdAt w' R d s := by
  obtain ⟨p, cap, h⟩ := h.ex
  exact ⟨p, cap, ha.row h.row, ⟨fun hne => by
    obtain ⟨g, o, e, hr⟩ := h.rd.at_ hne
    exact ⟨g, o, e, ha.range hr⟩⟩, h.le, h.nil_, h.lt, h.blk_, Nat.lt_of_lt_of_le h.dlt ha.size⟩
theorem keeps_rd {w w' : World} {R d : Nat} {s : RS} (h : RdAt w R d s) (ho : Only R w w') : KeepsOthers w w' := by
  obtain ⟨p, cap, h⟩ := h.ex
  exact keeps_only h.row ho
/-- Where all that is read lies. -/
structure Lies (w : World) (S0 S R d X : Nat) : Prop where
  n0 : w.heap.size ≤ S0
  s0 : S0 < S
  sr : S < R
  sd : S < d
  rx : R < X
/-- What holds while it is read. -/
structure RtRel (S0 S R d X : Nat) (b : List Nat) (i : Nat) (wr : World) : Prop where
  sta : Row wr S 35 (mixC (staR b) zs i)
  rd : RdAt wr R d (qs b i)
  box : Row wr X 131 [.pointer (some ⟨R, 0, none⟩)]
  res : Row wr S0 35 (scs zs)
section
variable {w wr wr' : World} {S0 S R d X : Nat} {b : List Nat} {i : Nat}
theorem RtRel.alike (h : RtRel S0 S R d X b i wr) (ha : Rf.Alike wr wr') : RtRel S0 S R d X b i wr' := ⟨ha.row h.sta, rd_alike h.rd ha, ha.row h.box, ha.row h.res⟩
end
/-- A reader has gone on. -/
structure RuRel (S0 S R d X : Nat) (b : List Nat) (i : Nat) (wr : World) : Prop where
  sta : Row wr S 35 (mixC (staR b) zs i)
  rd : RdAt wr R d (qs b (i + 1))
  box : Row wr X 131 [.pointer (some ⟨R, 0, none⟩)]
  res : Row wr S0 35 (scs zs)
section
variable {w wr wa wb : World} {S0 S R d X : Nat} {b : List Nat} {i : Nat}
theorem RtRel.read (h : RtRel S0 S R d X b i wr) (hl : Lies w S0 S R d X) (ha : RdAt wa R d (qs b (i + 1))) (ho : Only R wr wa) : RuRel S0 S R d X b i wa := by
  have h1 := hl.s0; have h2 := hl.sr; have h3 := hl.rx
  exact ⟨h.sta.only ho (by omega), ha, h.box.only ho (by omega), h.res.only ho (by omega)⟩
theorem RuRel.store (h : RuRel S0 S R d X b i wa) (hl : Lies w S0 S R d X) (hb : Row wb S 35 (mixC (staR b) zs (i + 1))) (ho : Only S wa wb) : RtRel S0 S R d X b (i + 1) wb := by
  have h1 := hl.s0; have h2 := hl.sr; have h3 := hl.rx; have h4 := hl.sd
  exact ⟨hb, h.rd.other ho (by omega) (by omega), h.box.only ho (by omega), h.res.only ho (by omega)⟩
end
/-- What holds while a round's numbers are read. -/
structure RlRel (w : World) (S0 S R d X : Nat) (b : List Nat) (k : Nat) (q : Option Addr) (w1 : World) (i : Value) (wr : World) : Prop where
  ex : ∃ j : Nat, j ≤ gn k ∧ i = .int .i64 j ∧ RtRel S0 S R d X b (gf k + 1 + j) wr
  pt : Pt wr q (ptrs S (off (gf k) + 32) (gn k))
  keeps : KeepsOthers w1 wr
  bel : Below w.heap.size w1 wr
theorem pt_only {w w' : World} {q : Option Addr} {vs cs : List Value} {b : Nat} {t : TypeId} (hq : Pt w q vs) (hr : Row w b t cs) (ht : t ≠ 109) (ho : Only b w w') : Pt w' q vs := ⟨fun hne => by
  obtain ⟨g, cur, e, hh, hc⟩ := hq.at_ hne
  refine ⟨g, cur, e, (ho.block g (Array.getElem?_eq_some_iff.1 hh).1 (fun e => ?_)).trans hh, hc⟩
  subst e
  have := Option.some.inj ((show w.heap[g]? = _ from hr).symm.trans hh)
  exact ht (Obj.cells.inj this).2.1⟩
theorem pt_rd {w w' : World} {q : Option Addr} {vs : List Value} {R d : Nat} {s : RS} (hq : Pt w q vs) (h : RdAt w R d s) (ho : Only R w w') : Pt w' q vs := by
  obtain ⟨p, cap, h⟩ := h.ex
  exact pt_only hq h.row (by decide) ho
/-- What read leaves. -/
structure RedPost (w : World) (b : List Nat) (e : Ending) (w' : World) : Prop where
  ret : e = .returned (.tuple #[.agg (scs (staR b)).toArray, .int .i64 (endR (qs b 22) : Int)])
  bel : Below w.heap.size w w'
set_option maxHeartbeats 1000000 in
set_option maxRecDepth 100000 in
theorem red_any (b : List Nat) (p : Option Addr) (cap : Nat) (w : World) (hp : Rd w p b) (hn : p = none → b.length = 0 ∧ cap = 0) (hl : b.length ≤ 1000000) (hlt : AllLt 256 b) :
    Calls Try.prog 81 #[.slice p b.length cap] w (RedPost w b) := by
  have HP := Lib.hid hp; have HN := Lib.hid hn; have HLT := Lib.hid hlt; have HL := Lib.hid hl
  clear hp hn hlt hl
  refine (callsIn_wide (n := 0)).1 (callsIn_of_wp_marks Try.func81 rfl trivial ?_ rfl)
  refine wpIn_wide.2 ?_
  simp only [Try.ntmps81, List.size_toArray, List.length_cons, List.length_nil, Nat.reduceAdd, Nat.reduceSub, Array.replicate_succ, Array.replicate_zero, List.push_toArray, List.append_toArray, List.nil_append, List.cons_append]
  go_wp2_with (first
    | ((with_reducible refine at_slot 2 ?_); (refine arm_alloc (o := ⟨some 2, _, _, _, _, _⟩) rfl _ rfl (scs zs) z_sta ?_); intro S0 w1 S0e hw1 nw1)
    | ((with_reducible refine at_slot 4 ?_); (refine arm_alloc (o := ⟨some 4, _, _, _, _, _⟩) rfl _ rfl (scs zs) z_sta ?_); intro S w2 Se hw2 nw2))
  have bel2 : Below w.heap.size w w2 := below_step nw1.below nw1.below.size nw2.below
  refine (rNew_any b p cap w2 ((HP.out.below nw1.below).below nw2.below) HN.out HL.out HLT.out).mono ?_
  rintro e w3 ⟨⟨R, d, rfl, hA, hR, hd⟩, hB3⟩
  have e1 := S0e.out; have e2 := Se.out; have z1 := nw1.size; have z2 := nw2.size; have z3 := hB3.size
  have HA := Lib.hid hA
  have hs1 := hw1.old (nw2.below.trans (hB3.mono (by omega)))
  have hs2 := hw2.old hB3
  have HD := Lib.hid (show w.heap.size ≤ S0 ∧ S0 < S ∧ S < R ∧ S < d ∧ R < w3.heap.size by have := hA.row_lt; omega)
  have HB := Lib.hid (show Below w.heap.size w w3 from below_step bel2 (by omega) hB3)
  have HS1 := Lib.hid hs1; have HS2 := Lib.hid hs2
  clear hw1 hw2 nw1 nw2 S0e Se e1 e2 z1 z2 z3 hA hs1 hs2 hR hd hB3 bel2
  go_wp2_with fail
  have hX : Row (w3.alloc (.cells #[.pointer (some ⟨R, 0, none⟩)] 131)) w3.heap.size 131 [.pointer (some ⟨R, 0, none⟩)] := heap_alloc_new _ _
  have hNX := new_alloc w3 (.cells #[.pointer (some ⟨R, 0, none⟩)] 131)
  have hRw := hNX.size
  generalize w3.alloc (.cells #[.pointer (some ⟨R, 0, none⟩)] 131) = w4 at hX hNX hRw ⊢
  have hb3 := HB.out
  have bel4 : Below w.heap.size w w4 := below_step hb3 hb3.size hNX.below
  have h0 : RtRel S0 S R w3.heap.size w3.heap.size b 0 w4 ∨ True := .inr trivial
  have hA4 := HA.out.old hNX.below
  have hs1 := HS1.out.old hNX.below
  have hs2 : Row w4 S 35 (mixC (staR b) zs 0) := (HS2.out.old hNX.below).congr (mix_zero zs_ok).symm
  have hd0 := HD.out
  generalize w3.heap.size = X at hX hd0 ⊢
  have h0 : RtRel S0 S R d X b 0 w4 := ⟨hs2, hA4, hX, hs1⟩
  have HD : Hid (Lies w S0 S R d X) := Lib.hid ⟨hd0.1, hd0.2.1, hd0.2.2.1, hd0.2.2.2.1, hd0.2.2.2.2⟩
  have hwz := bel4.size
  have OKR := Lib.hid (staR_ok HLT.out)
  clear hA4 hs1 hs2 hX hd0 hb3 hNX hRw HB HA HS1 HS2 HP HN
  refine wpIn_wide.1 (wp_range2 (gf := 41) (ub := #[.pointer (some ⟨S, 0, none⟩)]) rfl (enters_of Try.func41 (by kernel_rfl) rfl) w.heap.size hwz 11
    (fun k wr => RtRel S0 S R d X b (gf k) wr) (fun k A B h ha => h.alike ha) (Handed S) (fun k x y A B h ha => h.alike ha) h0 (digests_any S w4)
    (fun x y => { tmps := #[.slice p b.length cap, undef, .pointer (some ⟨S0, 0, none⟩), .int .i64 0, .pointer (some ⟨S, 0, none⟩), .pointer (some ⟨X, 0, none⟩), x, y, undef, undef, .slice p b.length cap, .pointer (some ⟨R, 0, none⟩), .func (.func 41) #[.pointer (some ⟨S, 0, none⟩)] #[], x, y, undef, undef, undef, undef, undef, undef, undef, undef, undef, undef, undef, undef, undef, undef, undef, undef, undef, undef], defers := [] })
    ?assign ?body ?done)
  case assign =>
    intro l x y W' K hK
    clear h0 bel4 hwz
    gi_wp2
    exact hK
  case body =>
    intro l k x y wo hk hJ hE hbw
    obtain ⟨rfl, q, qc, rfl, hP⟩ := hE.ex
    have HG := Lib.hid (g_hash hk)
    have hws : w.heap.size ≤ wo.heap.size := Nat.le_trans hwz hbw.size
    have hS0 := HD.out.n0; have hS1 := HD.out.s0
    clear h0 hE hbw bel4 hwz
    have HP := Lib.hid hP; have HJ := Lib.hid hJ; have HKK := Lib.hid hk
    have hqn : qs b (gf k + 1) = (hashR (qs b (gf k))).2 := qs_h HG.out.1
    have hql := Nat.le_trans (qs_le b (gf k)) HL.out
    have hfC : fC (staR b) (gf k) = u8s (hv b (gf k)) := by rw [fC_h HG.out.1, hF_R HG.out.2 HG.out.1]
    have hmix := mix_step OKR.out zs_ok HG.out.2
    rw [hfC] at hmix
    have hfit := off_fit HG.out.2
    have hfs : fsz (gf k) = 32 := by unfold fsz; rw [if_pos HG.out.1]
    rw [hfs] at hfit
    have hml := mix_len OKR.out zs_ok (Nat.le_of_lt HG.out.2)
    have hhv := hv_ok HLT.out (gf k)
    have hbx : wo.cell? ⟨X, 0, none⟩ = some (.pointer (some ⟨R, 0, none⟩)) := hJ.box.cell rfl
    have HV := Lib.hid hhv; have HMX := Lib.hid hmix; have HQN := Lib.hid hqn; have HML := Lib.hid hml
    have hst := hJ.sta
    clear hP hJ hqn hmix hhv hfs hfC hml
    obtain ⟨X0, hX0⟩ : ∃ X0, X0 = off (gf k) := ⟨_, rfl⟩
    obtain ⟨cs, hcs⟩ : ∃ cs, cs = mixC (staR b) zs (gf k) := ⟨_, rfl⟩
    rw [← hX0] at HMX hfit
    rw [← hcs] at HMX HML hst
    have hvv : (hashR (qs b (gf k))).1 = hv b (gf k) := rfl
    have CL := Lib.hid (rHash_any R d (qs b (gf k)) wo HJ.out.rd hql)
    rw [hvv, ← HQN.out] at CL
    generalize hv b (gf k) = hh at CL HV HMX hvv
    rw [← hX0]
    have HX0 := Lib.hid hX0; have HCS := Lib.hid hcs
    clear hvv hX0 hcs hql
    gi_wp2_with (first
      | ((with_reducible refine in_slot 17 ?_); (refine in_call (o := ⟨some 17, _, _, _, _, _⟩) 17 rfl rfl (fun c h => by cases h) (run_op_call 75 _ _ rfl #[.pointer (some ⟨R, 0, none⟩)] (by simp only [List.map_toArray, List.map_cons, List.map_nil]; rfl) Try.func75 (by kernel_rfl) (by kernel_rfl) _) CL.out ?_); rintro e wa ⟨rfl, hAa, hOa⟩; refine ⟨_, rfl, ?_⟩; have hUa := HJ.out.read HD.out hAa hOa; have hsta : Row wa S 35 cs := HCS.out ▸ hUa.sta)
      | ((with_reducible refine in_store (o := ⟨none, _, _, _, _, _⟩) rfl rfl _ _ _ rfl S X0 rfl (u8s hh) rfl _ _ hsta (by rw [HML.out, h_len HV.out]; exact hfit) (u8s_one _) (szH HV.out) ?_); intro wb hRb hOb hZb))
    have hRn : Row wb S 35 (mixC (staR b) zs (gf k + 1)) := hRb.congr HMX.out
    have hT := hUa.store HD.out hRn hOb
    have hka : KeepsOthers wo wb := (keeps_rd HJ.out.rd hOa).trans (keeps_only hsta hOb)
    have hba : Below w.heap.size wo wb := (hOa.below (by have := HD.out.sr; omega) hws).trans (hOb.below (by omega) (Nat.le_trans hws hOa.size))
    have hpa : Pt wb q (ptrs S (off (gf k) + 32) (gn k)) := pt_only (pt_rd HP.out HJ.out.rd hOa) hsta (by decide) hOb
    have hl0 : RlRel w S0 S R d X b k q wo (.int .i64 0) wb := ⟨⟨0, by omega, rfl, hT⟩, hpa, hka, hba⟩
    have hm9 := gn_le k
    obtain ⟨m, hm⟩ : ∃ m, m = gn k := ⟨_, rfl⟩
    rw [← hm]
    rw [← hm] at hm9
    have HM := Lib.hid hm
    clear hm hRn hT hka hba hpa hRb hOb hZb hUa hsta hAa hOa CL HMX HML HCS HJ HP hst hfit hbx HQN
    gi_loopw [21] (fun i wr' => RlRel w S0 S R d X b k q wo i wr') (fun i _ => m - (intOf i).toNat)
    case atStart => exact hl0
    case round =>
      clear hl0
      obtain ⟨⟨j, hj, rfl, hT⟩, hpt, hkeep, hbel⟩ := hrel
      rw [← HM.out] at hj
      by_cases hlt : j < m
      · have ik : (j : Int) < (m : Int) := by omega
        have hj' : j ≤ gn k := by rw [← HM.out]; exact hj
        obtain ⟨g, rfl, hgc⟩ := hpt.cell (j := j) (by rw [ptrs_len, ← HM.out]; exact hlt)
        rw [ptrs_get S _ (by rw [← HM.out]; exact hlt), ← off_num HKK.out j hj'] at hgc
        have HN := Lib.hid (g_num HKK.out (j := j) (by rw [← HM.out]; exact hlt))
        have hsx : w.heap.size ≤ wr.heap.size := Nat.le_trans hws hbel.size
        have hbx : wr.cell? ⟨X, 0, none⟩ = some (.pointer (some ⟨R, 0, none⟩)) := hT.box.cell rfl
        have hqn : qs b (gf k + 1 + j + 1) = (numR 4 (qs b (gf k + 1 + j))).2 := qs_n HN.out.1
        have hql := Nat.le_trans (qs_le b (gf k + 1 + j)) HL.out
        have hfC : fC (staR b) (gf k + 1 + j) = [num32 (nv b (gf k + 1 + j))] := by rw [fC_n HN.out.1, nF_R HN.out.2 HN.out.1]
        have hmix := mix_step OKR.out zs_ok HN.out.2
        have hfit := off_fit HN.out.2
        have hfs : fsz (gf k + 1 + j) = 1 := by unfold fsz; rw [if_neg (by rw [HN.out.1]; decide)]
        rw [hfs] at hfit
        have hml := mix_len OKR.out zs_ok (Nat.le_of_lt HN.out.2)
        rw [hfC, ← set_lay (by rw [hml]; omega)] at hmix
        have CN := Lib.hid (rNum_any R d (qs b (gf k + 1 + j)) wr hT.rd hql)
        have hvv : (numR 4 (qs b (gf k + 1 + j))).1 = nv b (gf k + 1 + j) := rfl
        rw [hvv, ← hqn] at CN
        have HT := Lib.hid hT; have HC := Lib.hid hgc; have HBX := Lib.hid hbx; have HML := Lib.hid hml; have HMX := Lib.hid hmix
        have HPT := Lib.hid hpt; have HKP := Lib.hid hkeep; have HBL := Lib.hid hbel
        clear hT hgc hqn hql hfC hmix hml hfs hvv hj' hpt hkeep hbel
        generalize nv b (gf k + 1 + j) = v at CN HMX
        obtain ⟨X1, hX1⟩ : ∃ X1, X1 = off (gf k + 1 + j) := ⟨_, rfl⟩
        rw [← hX1] at HC HMX hfit
        obtain ⟨cs, hcs⟩ : ∃ cs, cs = mixC (staR b) zs (gf k + 1 + j) := ⟨_, rfl⟩
        rw [← hcs] at HMX HML
        have HCS := Lib.hid hcs
        clear hX1 hcs HN
        gi_wp2_with (first
          | ((with_reducible refine in_slot 23 ?_); (refine in_value (o := ⟨some 23, _, _, _, _, _⟩) (.pointer (some ⟨g, 0 + j, none⟩)) 23 rfl rfl (fun c h => by cases h) (fun c h => by cases h) (run_op_indexS _ _ _ rfl 109 (by kernel_rfl) (by kernel_rfl) g 0 m qc rfl .i64 j rfl hlt) ?_))
          | ((with_reducible refine in_slot 24 ?_); (refine in_value (o := ⟨some 24, _, _, _, _, _⟩) (.pointer (some ⟨S, X1, none⟩)) 24 rfl rfl (fun c h => by cases h) (fun c h => by cases h) (run_op_load1 _ _ rfl _ Try.underlying109 rfl ⟨g, 0 + j, none⟩ rfl _ HC.out) ?_))
          | ((with_reducible refine in_slot 27 ?_); (refine in_call (o := ⟨some 27, _, _, _, _, _⟩) 27 rfl rfl (fun c h => by cases h) (run_op_call 70 _ _ rfl #[.pointer (some ⟨R, 0, none⟩)] (by simp only [List.map_toArray, List.map_cons, List.map_nil]; rfl) Try.func70 (by kernel_rfl) (by kernel_rfl) _) CN.out ?_); rintro e wa ⟨rfl, hAa, hOa⟩; refine ⟨_, rfl, ?_⟩; have hUa := HT.out.read HD.out hAa hOa; have hsta : Row wa S 35 cs := HCS.out ▸ hUa.sta)
          | ((with_reducible refine in_storeV (o := ⟨none, _, _, _, _, _⟩) rfl rfl _ _ _ rfl S X1 rfl (num32 v) rfl rfl (by kernel_rfl) _ _ hsta (by rw [HML.out]; omega) ?_); intro wb hRb hOb hZb))
        go_roundw
        case rel =>
          have hT2 := hUa.store HD.out (hRb.congr HMX.out) hOb
          exact ⟨⟨j + 1, by rw [← HM.out]; omega, by go_num, hT2⟩, pt_only (pt_rd HPT.out HT.out.rd hOa) hsta (by decide) hOb, HKP.out.trans ((keeps_rd HT.out.rd hOa).trans (keeps_only hsta hOb)), HBL.out.trans ((hOa.below (by have := HD.out.sr; omega) hsx).trans (hOb.below (by omega) (Nat.le_trans hsx hOa.size)))⟩
        case measure => simp [intOf]; omega
      · obtain rfl : j = m := by omega
        have HE := Lib.hid (show gf (k + 1) = gf k + 1 + j by rw [g_next HKK.out, HM.out])
        gi_wp2
        exact ⟨hkeep, hbel, by rw [HE.out]; exact hT⟩
  case done =>
    intro D wr hD hJ hbw hK
    have hT : RtRel S0 S R d X b 22 wr := hJ
    clear h0 hJ
    have hml : mixC (staR b) zs 22 = scs (staR b) := mix_all OKR.out
    have hsta : Row wr S 35 (scs (staR b)) := hT.sta.congr hml
    have hbel := bel4.trans hbw
    have hrd := hT.rd
    obtain ⟨q22, hq⟩ : ∃ q22, q22 = qs b 22 := ⟨_, rfl⟩
    obtain ⟨sr, hsr⟩ : ∃ sr, sr = staR b := ⟨_, rfl⟩
    rw [← hq] at hrd
    rw [← hsr] at hsta OKR
    have hbox := hT.box; have hres := hT.res
    have HQ := Lib.hid hq; have HSR := Lib.hid hsr
    clear hT hml hq hsr
    have hd1 := HD.out.s0; have hd2 := HD.out.sr; have hd3 := HD.out.rx; have hd0 := HD.out.n0
    have ENDC := Lib.hid (rEnd_any R d q22)
    go_wp2_with fail
    refine wp_calm ?_
    refine wp_region_held (S := fun w' => Row w' S 35 (scs sr) ∧ Row w' X 131 [.pointer (some ⟨R, 0, none⟩)]) (by kernel_rfl) ?_
    change wpAnyH _ _ _ _ _ _ _ _ wr.drew
    have hS : Row wr.drew S 35 (scs sr) ∧ Row wr.drew X 131 [.pointer (some ⟨R, 0, none⟩)] := ⟨hsta, hbox⟩
    have hrz : RdAt wr.drew R d q22 := hrd.old ((Below.refl _ _).drew)
    have hresz : Row wr.drew S0 35 (scs zs) := hres
    have hbz : Below w.heap.size w wr.drew := hbel.trans ((Below.refl _ _).drew)
    have hKz : wr.drew.heap[D]? = some (.deferred (some [])) := hK
    generalize wr.drew = wz at hS hrz hresz hbz hKz ⊢
    clear hsta hbox hrd hres hbel hK hbw
    refine h_take 0 (.agg (scs sr).toArray) rfl 30 rfl (by kernel_rfl) (by kernel_rfl) (by kernel_rfl) (by kernel_rfl) (fun _ _ _ h => by cases h.1) (fun w' hw => run_op_load _ _ rfl S 0 rfl (scs sr) ((Has.refl _).range hw.1) (sz_sta OKR.out)) hS ?_
    simp only [Act.put, List.setIfInBounds_toArray, List.set_cons_zero, List.set_cons_succ]
    refine h_take 1 (.pointer (some ⟨R, 0, none⟩)) rfl 31 rfl (by kernel_rfl) (by kernel_rfl) (by kernel_rfl) (by kernel_rfl) (fun _ _ _ h => by cases h.1) (fun w' hw => run_op_load1 _ _ rfl _ Try.underlying131 rfl ⟨X, 0, none⟩ rfl _ (hw.2.cell rfl)) hS ?_
    simp only [Act.put, List.setIfInBounds_toArray, List.set_cons_zero, List.set_cons_succ]
    refine h_one (i := 2) (by kernel_rfl) (o_call rfl 32 rfl (by kernel_rfl) (run_op_call 71 _ _ rfl #[.pointer (some ⟨R, 0, none⟩)] (by simp only [List.map_toArray, List.map_cons, List.map_nil]; rfl) Try.func71 (by kernel_rfl) (by kernel_rfl) _) (ENDC.out wz hrz) ?_)
    rintro e y ⟨rfl, rfl⟩
    refine ⟨_, rfl, hS, ?_⟩
    simp only [Act.put, List.setIfInBounds_toArray, List.set_cons_zero, List.set_cons_succ]
    refine h_one (i := 3) (by kernel_rfl) (o_skip rfl rfl (by kernel_rfl) (run_op_store _ _ _ rfl S0 0 rfl (scs sr) rfl _ _ hresz (by rw [scs_len OKR.out, scs_len zs_ok]; omega) (scs_one _) (sz_sta OKR.out)) ?_)
    have hSr : Row (wz.setRow S0 (lay (scs zs) 0 (scs sr)).toArray) S0 35 (lay (scs zs) 0 (scs sr)) := row_setRow hresz _
    have hSo : Only S0 wz (wz.setRow S0 (lay (scs zs) 0 (scs sr)).toArray) := Only.setRow _ _ _
    generalize wz.setRow S0 (lay (scs zs) 0 (scs sr)).toArray = wt at hSr hSo ⊢
    have hSt : Row wt S 35 (scs sr) ∧ Row wt X 131 [.pointer (some ⟨R, 0, none⟩)] := ⟨hS.1.only hSo (by omega), hS.2.only hSo (by omega)⟩
    have hbt : Below w.heap.size w wt := below_only hbz hSo hd0 hbz.size
    have hKt : wt.heap[D]? = some (.deferred (some [])) := (keeps_only hresz hSo).same D _ hKz rfl
    refine ⟨hSt, ?_⟩
    refine h_take 4 (.int .i64 (endR q22 : Int)) rfl 3 rfl (by kernel_rfl) (by kernel_rfl) (by kernel_rfl) (by kernel_rfl) (fun _ _ _ h => by cases h.1) (fun w' _ => by kernel_rfl) hSt ?_
    simp only [Act.put, List.setIfInBounds_toArray, List.set_cons_zero, List.set_cons_succ]
    refine wpAnyH_done (by kernel_rfl) ?_ _
    refine ⟨rfl, ?_⟩
    have hSr2 : Row wt S0 35 (scs sr) := hSr.congr (lay_all _ _ (by rw [scs_len OKR.out, scs_len zs_ok]))
    clear hSr hSo hS hSt hbz hKz hresz hrz ENDC
    go_wp2_with fail
    refine ⟨by simp, .inl ⟨_, _, rfl, run_takeDeferred hKt, ?_⟩⟩
    have hal : Rf.Alike wt (wt.putObj D (.deferred none)) := Alike.putObj _ hKt rfl
    have hfin : Below w.heap.size w (wt.putObj D (.deferred none)) := hbt.trans (below_put hKt (by omega))
    refine ⟨_, result_row2 (p := 2) (u := 3) (ty := 35) (t := 35) (by kernel_rfl) _ _ S0 (scs sr) (.int .i64 (endR q22 : Int)) rfl rfl (hal.row hSr2) (sz_sta OKR.out), ?_, hfin⟩
    rw [HSR.out, HQ.out]
end Go.Proofs.Ytghogoijjaiccaa.Sa
