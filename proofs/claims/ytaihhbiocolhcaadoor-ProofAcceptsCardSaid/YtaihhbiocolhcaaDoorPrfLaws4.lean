/-
  The walk of layer 16's statement ProofAccepts, out of the contracts: it returns true, and changes nothing that was there. Over this seat's translation.
-/
import Derived.Test.YtaihhbiocolhcaaDoorPrfAwake
import Derived.Test.YtaihhbiocolhcaaDoorPrfActs
namespace Go.Proofs.YtaihhbiocolhcaaDoor.Pf
open Go.ChangeShapes Go.WideShapes Go.ChangeAt Go.RowKit Go.Proofs.YtaihhbiocolhcaaDoor.Mem Go.Proofs.YtaihhbiocolhcaaDoor.Bt Go.Proofs.YtaihhbiocolhcaaDoor.Wi Go.Proofs.YtaihhbiocolhcaaDoor.Sha Go.Proofs.YtaihhbiocolhcaaDoor.Ac Go.Proofs.YtaihhbiocolhcaaDoor.Tr
open Go.Proofs.YtaihhbiocolhcaaDoor.Im (atI_nat Is64)
open Go.Proofs.YtaihhbiocolhcaaDoor.Tg (bytesOf bytesOf_length bytesOf_lt bytesOf_inj Rd Rd.below Parts parts_one arm_one tagD tagD_len tagOf_any refTag_any total image image_inj image_length)
open Go.Proofs.YtaihhbiocolhcaaDoor.Ep (H32 zh zh_ok Has h_len szH zH fitH allH came_at one_app)
set_option linter.unusedVariables false
set_option linter.unusedSimpArgs false

theorem chk_tree {t : Tree} (hg : Tr.Good t) {p : Nat} (hp : p < 16) {z : Acct} (h : t p = some z) : chkE (rootD t) (p : Int) z (pathD t p) = 0 := by
  have hz := hg p z h
  have hl : leadK p (pathD t p) (digA z) 4 = rootD t := by
    have := lead_root t hp
    rw [show leafD t p = digA z by unfold leafD; rw [h]] at this
    exact this
  unfold chkE
  rw [if_pos (endE_in hz.2.2 ⟨by omega, by omega⟩), if_pos (by unfold endD; rw [if_pos hz.2.2, leadI_in hp]; exact hl)]
theorem za_not : ¬ NRt za.nm := fun h => by have := h.1; exact absurd this (by decide)
theorem chk_none (root : List Nat) (p : Int) (L : List (List Nat)) : chkE root p za L = 1 := by
  unfold chkE endE
  rw [if_neg za_not, if_neg (by omega)]
theorem lead_none {t : Tree} {p : Nat} (hp : p < 16) (h : t p = none) : leadK p (pathD t p) digE 4 = rootD t := by
  have := lead_root t hp
  rw [show leafD t p = digE by unfold leafD; rw [h]] at this
  exact this
structure PaRel16 (w : World) (B m : Nat) (l : List Puta) (i : Value) (wr : World) : Prop where
  ex : ∃ k : Nat, k ≤ l.length ∧ i = .int .i64 (k : Int)
  tr : ∃ t, Tr.Good t ∧ TrAt wr B m t
  bel : Below w.heap.size w wr
structure PcRel16 (w : World) (B m E : Nat) (t : Tree) (rr : List Nat) (i : Value) (wr : World) : Prop where
  ex : ∃ k : Nat, k ≤ 16 ∧ i = .int .i64 (k : Int)
  tr : TrAt wr B m t
  re : Row wr E 23 (u8s rr)
  bel : Below w.heap.size w wr
set_option maxHeartbeats 4000000 in
set_option maxRecDepth 100000 in
theorem proofAccepts_any (l : List Puta) (P : Option Addr) (pc : Nat) (w : World) (hs : Sl.At kP w P l) (hk : w.rangeAt 1 0 (u32s ks)) :
    Calls Tryd.prog 4 #[.slice P l.length pc] w fun e w' => e = .returned (.bool true) ∧ Below w.heap.size w w' := by
  have hk1 : 1 < w.heap.size := range_lt hk (by simp [u32s, ks])
  have HKW : Hid (∀ w', Below w.heap.size w w' → w'.rangeAt 1 0 (u32s ks)) := Lib.hid fun w' hb => range_block hk (hb.block _ hk1)
  have HS := Lib.hid hs
  have CA := Lib.hid (fun w0 h => awake16_any w0 h)
  have CN := Lib.hid (fun w0 h => Tr.new_any w0 h)
  clear hs hk hk1
  by_cases h1 : 20 < l.length
  · have d1 : decide ((20 : Int) < (l.length : Int)) = true := decide_eq_true (by omega)
    clear h1
    go_enter Tryd.func4, Tryd.ntmps4
    go_wp2_with fail
    refine (CA.out _ (HKW.out _ (Below.refl _ _))).mono ?_
    rintro e y1 ⟨rfl, hB⟩
    have bel_2 : Below w.heap.size w y1 := hB
    clear hB
    go_wp2_with fail
    go_ret
    exact ⟨rfl, bel_2⟩
  · have d1 : decide ((20 : Int) < (l.length : Int)) = false := decide_eq_false (by omega)
    have HL : Hid (l.length ≤ 20) := Lib.hid (by omega)
    clear h1
    go_enter Tryd.func4, Tryd.ntmps4
    go_wp2_with fail
    refine (CA.out _ (HKW.out _ (Below.refl _ _))).mono ?_
    rintro e y1 ⟨rfl, hB⟩
    have bel_2 : Below w.heap.size w y1 := hB
    clear hB
    go_wp2_with fail
    have szT := bel_2.size
    refine (CN.out _ (HKW.out _ bel_2)).mono ?_
    rintro e y3 ⟨⟨B, m, rfl, hT, gB, gm⟩, hB⟩
    have bel_4 : Below w.heap.size w y3 := below_step bel_2 bel_2.size hB
    clear bel_2 hB
    have geB : w.heap.size ≤ B := by omega
    have gem : w.heap.size ≤ m := by omega
    clear szT gB gm
    go_wp2_with fail
    try simp only [Act.put]
    have h0 : PaRel16 w B m l (.int .i64 0) y3 := ⟨⟨0, by omega, rfl⟩, ⟨bare, good_bare, hT⟩, bel_4⟩
    clear hT bel_4 CN CA
    go_loopw [24] (fun i wr => PaRel16 w B m l i wr) (fun i _ => l.length - (intOf i).toNat)
    case atStart => exact h0
    case round =>
      clear h0
      obtain ⟨⟨k, hk, rfl⟩, ⟨t, hg, hT⟩, bel⟩ := hrel
      by_cases hlt : k < l.length
      · have hk20 : k < 20 := by have := HL.out; omega
        obtain ⟨x, g, o, hx, kx, hP, hgl, hrx⟩ := HS.out.get hlt
        subst hP
        have RX := Lib.hid (range_block hrx (bel.block g hgl))
        have ik : (k : Int) < (l.length : Int) := by omega
        have KX := Lib.hid kx
        have SX := Lib.hid (sz_put x); have FX := Lib.hid (fitPu x); have OX := Lib.hid (puc_one x); have LX := Lib.hid (allPu x)
        have X0 := Lib.hid (show (puc x)[0]? = some (.int .i64 x.pl) from rfl); have X1 := Lib.hid (show (puc x)[1]? = some (.string x.ac.nm) from rfl)
        have AX := Lib.hid (sz_acc x.ac)
        clear hrx kx hx
        by_cases hnm : 300 < x.ac.nm.size
        · have d2 : decide ((300 : Int) < (x.ac.nm.size : Int)) = true := decide_eq_true (by omega)
          clear hnm
          go_wp2_with (first
            | ((with_reducible refine at_slot 26 ?_); (refine arm_want (.pointer (some ⟨g, o + k * 4, none⟩)) 26 rfl (by kernel_rfl) (Sl.run_op_index fPu _ _ rfl g o _ _ rfl .i64 _ rfl k rfl hlt _) ?_); try simp only [Act.put, List.setIfInBounds_toArray, List.set_cons_zero, List.set_cons_succ])
            | ((with_reducible refine at_slot 27 ?_); (refine arm_load (o := ⟨some 27, _, _, _, _, _⟩) rfl _ _ rfl g (o + k * 4) rfl (puc x) (RX.out) SX.out ?_); try simp only [Act.put, List.setIfInBounds_toArray, List.set_cons_zero, List.set_cons_succ])
            | ((with_reducible refine at_slot 5 ?_); (refine arm_alloc (o := ⟨some 5, _, _, _, _, _⟩) rfl _ rfl (puc zpu) z_put ?_); intro X v101a Xe hXa nX; try simp only [Act.put, List.setIfInBounds_toArray, List.set_cons_zero, List.set_cons_succ])
            | ((with_reducible refine arm_store (o := ⟨none, _, _, _, _, _⟩) rfl _ _ _ rfl X 0 rfl (puc x) rfl _ _ hXa FX.out OX.out SX.out ?_); intro v101 hXb oX sX; try simp only [Act.put, List.setIfInBounds_toArray, List.set_cons_zero, List.set_cons_succ])
            | ((with_reducible refine at_slot 30 ?_); (refine arm_want (.string x.ac.nm) 30 rfl (by kernel_rfl) (run_op_load1 _ _ rfl (.string) (by kernel_rfl) rfl ⟨X, 1, none⟩ rfl (.string x.ac.nm) ((hXb.congr LX.out).cell X1.out)) ?_); try simp only [Act.put, List.setIfInBounds_toArray, List.set_cons_zero, List.set_cons_succ]))
          have lX : wr.heap.size ≤ X := by have := Xe.out; omega
          have bX : Below wr.heap.size wr v101 := below_only nX.below oX lX nX.below.size
          have rrX : Row v101 X 52 (puc x) := hXb.congr LX.out
          have geX : w.heap.size ≤ X := Nat.le_trans bel.size lX
          clear hXa hXb nX oX sX Xe lX
          have T_102 : TrAt v101 B m t := hT.old bX
          have bel_102 : Below w.heap.size w v101 := below_step bel bel.size bX
          clear hT bel bX
          go_ret
          exact ⟨rfl, bel_102⟩
        · have d2 : decide ((300 : Int) < (x.ac.nm.size : Int)) = false := decide_eq_false (by omega)
          clear hnm
          go_wp2_with (first
            | ((with_reducible refine at_slot 26 ?_); (refine arm_want (.pointer (some ⟨g, o + k * 4, none⟩)) 26 rfl (by kernel_rfl) (Sl.run_op_index fPu _ _ rfl g o _ _ rfl .i64 _ rfl k rfl hlt _) ?_); try simp only [Act.put, List.setIfInBounds_toArray, List.set_cons_zero, List.set_cons_succ])
            | ((with_reducible refine at_slot 27 ?_); (refine arm_load (o := ⟨some 27, _, _, _, _, _⟩) rfl _ _ rfl g (o + k * 4) rfl (puc x) (RX.out) SX.out ?_); try simp only [Act.put, List.setIfInBounds_toArray, List.set_cons_zero, List.set_cons_succ])
            | ((with_reducible refine at_slot 5 ?_); (refine arm_alloc (o := ⟨some 5, _, _, _, _, _⟩) rfl _ rfl (puc zpu) z_put ?_); intro X v101a Xe hXa nX; try simp only [Act.put, List.setIfInBounds_toArray, List.set_cons_zero, List.set_cons_succ])
            | ((with_reducible refine arm_store (o := ⟨none, _, _, _, _, _⟩) rfl _ _ _ rfl X 0 rfl (puc x) rfl _ _ hXa FX.out OX.out SX.out ?_); intro v101 hXb oX sX; try simp only [Act.put, List.setIfInBounds_toArray, List.set_cons_zero, List.set_cons_succ])
            | ((with_reducible refine at_slot 30 ?_); (refine arm_want (.string x.ac.nm) 30 rfl (by kernel_rfl) (run_op_load1 _ _ rfl (.string) (by kernel_rfl) rfl ⟨X, 1, none⟩ rfl (.string x.ac.nm) ((hXb.congr LX.out).cell X1.out)) ?_); try simp only [Act.put, List.setIfInBounds_toArray, List.set_cons_zero, List.set_cons_succ])
            | ((with_reducible refine at_slot 35 ?_); (refine arm_want (.int .i64 x.pl) 35 rfl (by kernel_rfl) (run_op_load1 _ _ rfl (.int .i64) (by kernel_rfl) rfl ⟨X, 0, none⟩ rfl (.int .i64 x.pl) ((hXb.congr LX.out).cell X0.out)) ?_); try simp only [Act.put, List.setIfInBounds_toArray, List.set_cons_zero, List.set_cons_succ])
            | ((with_reducible refine at_slot 37 ?_); (refine arm_load (o := ⟨some 37, _, _, _, _, _⟩) rfl _ _ rfl X 1 rfl (acs x.ac) ((puc_acc x).range (hXb.congr LX.out)) AX.out ?_); try simp only [Act.put, List.setIfInBounds_toArray, List.set_cons_zero, List.set_cons_succ]))
          have lX : wr.heap.size ≤ X := by have := Xe.out; omega
          have bX : Below wr.heap.size wr v101 := below_only nX.below oX lX nX.below.size
          have rrX : Row v101 X 52 (puc x) := hXb.congr LX.out
          have geX : w.heap.size ≤ X := Nat.le_trans bel.size lX
          clear hXa hXb nX oX sX Xe lX
          have T_102 : TrAt v101 B m t := hT.old bX
          have bel_102 : Below w.heap.size w v101 := below_step bel bel.size bX
          clear hT bel bX
          refine (set_any B m t x.pl x.ac _ T_102 KX.out.pl).mono ?_
          rintro e y7 ⟨rfl, hT2, hO⟩
          have nXm : X ≠ m := Ne.symm (T_102.map.row rrX)
          have T_104 : TrAt y7 B m (setR t x.pl x.ac) := hT2
          have X_104 : Row y7 X 52 (puc x) := rrX.only hO nXm
          have bel_104 : Below w.heap.size w y7 := below_only bel_102 hO gem bel_102.size
          clear T_102 rrX bel_102 hO
          clear hT2 nXm
          go_wp2_with fail
          try simp only [Act.put]
          go_roundw
          case rel => exact ⟨⟨k + 1, by omega, by go_num⟩, ⟨_, good_set hg _ KX.out.ac, T_104⟩, bel_104⟩
          case measure => simp [intOf]; omega
      · obtain rfl : k = l.length := by omega
        have HG := Lib.hid hg
        have CR : Hid (∀ w0, TrAt w0 B m t → w0.rangeAt 1 0 (u32s ks) → Calls Tryd.prog 20 #[.pointer (some ⟨B, 0, none⟩)] w0 fun e w' => e = .returned (.agg (u8s (rootD t)).toArray) ∧ Below w0.heap.size w0 w') := Lib.hid fun w0 h0 h => root_any B m t w0 h0 HG.out h
        have KR := Lib.hid (root_ok t)
        obtain ⟨rr, hrr⟩ : ∃ rr, rr = rootD t := ⟨_, rfl⟩
        have HRR := Lib.hid hrr
        rw [← hrr] at CR KR
        clear hg hrr
        go_wp2_with fail
        refine (CR.out _ hT (HKW.out _ bel)).mono ?_
        rintro e y401 ⟨rfl, hB⟩
        have T_402 : TrAt y401 B m t := hT.old hB
        have bel_402 : Below w.heap.size w y401 := below_step bel bel.size hB
        clear hT bel hB
        go_wp2_with (first
          | ((with_reducible refine at_slot 6 ?_); (refine arm_alloc (o := ⟨some 6, _, _, _, _, _⟩) rfl _ rfl (u8s zh) zH ?_); intro E v403a Ee hEa nE; try simp only [Act.put, List.setIfInBounds_toArray, List.set_cons_zero, List.set_cons_succ])
          | ((with_reducible refine arm_store (o := ⟨none, _, _, _, _, _⟩) rfl _ _ _ rfl E 0 rfl (u8s rr) rfl _ _ hEa (fitH KR.out) (u8s_one _) (szH KR.out) ?_); intro v403 hEb oE sE; try simp only [Act.put, List.setIfInBounds_toArray, List.set_cons_zero, List.set_cons_succ]))
        have lE : y401.heap.size ≤ E := by have := Ee.out; omega
        have bE : Below y401.heap.size y401 v403 := below_only nE.below oE lE nE.below.size
        have rrE : Row v403 E 23 (u8s rr) := hEb.congr (allH KR.out)
        have geE : w.heap.size ≤ E := Nat.le_trans bel_402.size lE
        clear hEa hEb nE oE sE Ee lE
        have T_404 : TrAt v403 B m t := T_402.old bE
        have bel_404 : Below w.heap.size w v403 := below_step bel_402 bel_402.size bE
        clear T_402 bel_402 bE
        try simp only [Act.put]
        have h0 : PcRel16 w B m E t rr (.int .i64 0) v403 := ⟨⟨0, by omega, rfl⟩, T_404, rrE, bel_404⟩
        clear T_404 rrE bel_404 hlt hk CR
        go_loopw [42] (fun i wr => PcRel16 w B m E t rr i wr) (fun i _ => 16 - (intOf i).toNat)
        case atStart => exact h0
        case round =>
          clear h0
          obtain ⟨⟨p, hp, rfl⟩, hT, hE, bel⟩ := hrel
          by_cases hlt : p < 16
          · have ik : (p : Int) < 16 := by omega
            have HP : Hid (Is64 (p : Int)) := Lib.hid (by simp [Is64, Lit.wf, IntKind.min, IntKind.max, IntKind.signed, IntKind.bits]; omega)
            have HP16 := Lib.hid hlt
            have P4T : P4 (pathD t p) := ⟨path_ok t p, rfl⟩
            obtain ⟨za1, hza⟩ : ∃ z, z = (t p).getD za := ⟨_, rfl⟩
            obtain ⟨isb, hisb⟩ : ∃ z, z = (t p).isSome := ⟨_, rfl⟩
            have KZ : Hid za1.Ok := Lib.hid (by
              rw [hza]
              cases h : t p with
              | none => exact za_ok
              | some z => exact (HG.out p z h).2.1)
            have CG : Hid (∀ w0, TrAt w0 B m t → Calls Tryd.prog 21 #[.pointer (some ⟨B, 0, none⟩), .int .i64 (p : Int)] w0 fun e w' => e = .returned (.tuple #[.agg (acs za1).toArray, .bool isb]) ∧ Below w0.heap.size w0 w') := Lib.hid fun w0 h0 => (get_any B m t _ w0 h0 HP.out).mono fun e w' h => ⟨by have h1 := h.ret; rw [atI_nat] at h1; rw [hza, hisb]; exact h1, h.bel⟩
            have CP : Hid (∀ w0, TrAt w0 B m t → w0.rangeAt 1 0 (u32s ks) → Calls Tryd.prog 22 #[.pointer (some ⟨B, 0, none⟩), .int .i64 (p : Int)] w0 fun e w' => e = .returned (.tuple #[.agg (dgC (pathD t p)).toArray, .int .i64 0]) ∧ Below w0.heap.size w0 w') := Lib.hid fun w0 h0 h => (path_any B m t _ w0 h0 HG.out h).mono fun e w' h => ⟨by
              have h1 := h.ret
              rw [show pathI t (p : Int) = pathD t p by unfold pathI; rw [if_pos (by omega), Int.toNat_natCast], show pathE (p : Int) = 0 from if_pos (by omega)] at h1
              exact h1, h.bel⟩
            have CBY : Hid (∀ w0, Calls Tryd.prog 13 #[.agg (dgC (pathD t p)).toArray] w0 (BsPost w0 (pathD t p))) := Lib.hid fun w0 => bytes_any _ w0 P4T
            have CRD : Hid (∀ q c w0, Came w0 q c (pathB (pathD t p)) → Calls Tryd.prog 10 #[.slice q 128 c] w0 fun e w' => e = .returned (.tuple #[.agg (dgC (pathD t p)).toArray, .int .i64 0]) ∧ Below w0.heap.size w0 w') := Lib.hid fun q c w0 hc => by
              have h := read_any (pathB (pathD t p)) q c w0 hc
              rw [P4T.bytes_len] at h
              exact h.mono fun e w' h => ⟨by rw [h.ret, rdP_back P4T, rdE_back P4T]; rfl, h.bel⟩
            have HCK : Hid (chkE rr (p : Int) za1 (pathD t p) = if isb = true then 0 else 1) := Lib.hid (by
              rw [hza, hisb, HRR.out]
              cases h : t p with
              | none => exact chk_none _ _ _
              | some z => exact chk_tree HG.out HP16.out h)
            have CK : Hid (∀ w0, w0.rangeAt 1 0 (u32s ks) → Calls Tryd.prog 15 #[.agg (u8s rr).toArray, .int .i64 (p : Int), .agg (acs za1).toArray, .agg (dgC (pathD t p)).toArray] w0 fun e w' => e = .returned (.int .i64 ((if isb = true then 0 else 1 : Nat) : Int)) ∧ Below w0.heap.size w0 w') := Lib.hid fun w0 h => (check_any rr p za1 (pathD t p) w0 KR.out KZ.out P4T h).mono fun e w' h => ⟨by rw [h.1, HCK.out], h.2⟩
            have CE : Hid (∀ w0, w0.rangeAt 1 0 (u32s ks) → Calls Tryd.prog 23 #[] w0 fun e w' => e = .returned (.agg (u8s digE).toArray) ∧ Below w0.heap.size w0 w') := Lib.hid fun w0 h => anone_any w0 h
            obtain ⟨dl, hdl⟩ : ∃ z, z = leadK p (pathD t p) digE 4 := ⟨_, rfl⟩
            have KL : Hid (H32 dl) := Lib.hid (hdl ▸ lead_ok digE_ok 4)
            have CL : Hid (∀ w0, w0.rangeAt 1 0 (u32s ks) → Calls Tryd.prog 8 #[.int .i64 (p : Int), .agg (u8s digE).toArray, .agg (dgC (pathD t p)).toArray] w0 fun e w' => e = .returned (.tuple #[.agg (u8s dl).toArray, .int .i64 0]) ∧ Below w0.heap.size w0 w') := Lib.hid fun w0 h => (lead_any _ (pathD t p) digE w0 P4T digE_ok h).mono fun e w' h => ⟨by rw [h.ret, leadI_in HP16.out, pathE_in HP16.out, hdl]; rfl, h.bel⟩
            have HNL : Hid (isb = false → dl = rr) := Lib.hid fun h => by
              rw [hdl, HRR.out]
              refine lead_none HP16.out ?_
              cases h2 : t p with
              | none => rfl
              | some z => rw [hisb, h2] at h; cases h
            have PO := Lib.hid P4T.ok; have PL := Lib.hid P4T.len
            have KP := Lib.hid (sz_path P4T.ok P4T.len); have PF := Lib.hid (fitP P4T.ok P4T.len); have PA := Lib.hid (allP P4T.ok P4T.len)
            have SZ := Lib.hid (sz_acc za1); have FZ := Lib.hid (fitA za1); have OZ := Lib.hid (acs_one za1); have LZ := Lib.hid (allA za1)
            clear P4T hza hisb hdl HCK
            generalize pathD t p = pp at CP CBY CRD CK CL PO PL KP PF PA
            cases isb with
            | true =>
              have CK2 := Lib.hid CK.out
              have CK3 : Hid (∀ w0, w0.rangeAt 1 0 (u32s ks) → Calls Tryd.prog 15 #[.agg (u8s rr).toArray, .int .i64 (p : Int), .agg (acs za1).toArray, .agg (dgC pp).toArray] w0 fun e w' => e = .returned (.int .i64 0) ∧ Below w0.heap.size w0 w') := Lib.hid CK.out
              clear CK CK2
              clear HNL
              go_wp2_with fail
              refine (CG.out _ hT).mono ?_
              rintro e y501 ⟨rfl, hB⟩
              have T_502 : TrAt y501 B m t := hT.old hB
              have E_502 : Row y501 E 23 (u8s rr) := hE.old hB
              have bel_502 : Below w.heap.size w y501 := below_step bel bel.size hB
              clear hT hE bel hB
              go_wp2_with (first
                | ((with_reducible refine at_slot 8 ?_); (refine arm_alloc (o := ⟨some 8, _, _, _, _, _⟩) rfl _ rfl (acs za) z_acc ?_); intro A v503a Ae hAa nA; try simp only [Act.put, List.setIfInBounds_toArray, List.set_cons_zero, List.set_cons_succ])
                | ((with_reducible refine arm_store (o := ⟨none, _, _, _, _, _⟩) rfl _ _ _ rfl A 0 rfl (acs za1) rfl _ _ hAa FZ.out OZ.out SZ.out ?_); intro v503 hAb oA sA; try simp only [Act.put, List.setIfInBounds_toArray, List.set_cons_zero, List.set_cons_succ]))
              have lA : y501.heap.size ≤ A := by have := Ae.out; omega
              have bA : Below y501.heap.size y501 v503 := below_only nA.below oA lA nA.below.size
              have rrA : Row v503 A 27 (acs za1) := hAb.congr LZ.out
              have geA : w.heap.size ≤ A := Nat.le_trans bel_502.size lA
              have neEA : E ≠ A := by have := E_502.lt; omega
              clear hAa hAb nA oA sA Ae lA
              have T_504 : TrAt v503 B m t := T_502.old bA
              have E_504 : Row v503 E 23 (u8s rr) := E_502.old bA
              have bel_504 : Below w.heap.size w v503 := below_step bel_502 bel_502.size bA
              clear T_502 E_502 bel_502 bA
              refine (CP.out _ T_504 (HKW.out _ bel_504)).mono ?_
              rintro e y505 ⟨rfl, hB⟩
              have T_506 : TrAt y505 B m t := T_504.old hB
              have E_506 : Row y505 E 23 (u8s rr) := E_504.old hB
              have A_506 : Row y505 A 27 (acs za1) := rrA.old hB
              have bel_506 : Below w.heap.size w y505 := below_step bel_504 bel_504.size hB
              clear T_504 E_504 rrA bel_504 hB
              go_wp2_with (first
                | ((with_reducible refine at_slot 10 ?_); (refine arm_alloc (o := ⟨some 10, _, _, _, _, _⟩) rfl _ rfl (dgC z4) z_path ?_); intro Y v507a Ye hYa nY; try simp only [Act.put, List.setIfInBounds_toArray, List.set_cons_zero, List.set_cons_succ])
                | ((with_reducible refine arm_store (o := ⟨none, _, _, _, _, _⟩) rfl _ _ _ rfl Y 0 rfl (dgC pp) rfl _ _ hYa PF.out (dgC_ones _) KP.out ?_); intro v507 hYb oY sY; try simp only [Act.put, List.setIfInBounds_toArray, List.set_cons_zero, List.set_cons_succ])
                | ((with_reducible refine at_slot 58 ?_); (refine arm_load (o := ⟨some 58, _, _, _, _, _⟩) rfl _ _ rfl Y 0 rfl (dgC pp) ((Has.refl _).range (hYb.congr PA.out)) KP.out ?_); try simp only [Act.put, List.setIfInBounds_toArray, List.set_cons_zero, List.set_cons_succ]))
              have lY : y505.heap.size ≤ Y := by have := Ye.out; omega
              have bY : Below y505.heap.size y505 v507 := below_only nY.below oY lY nY.below.size
              have rrY : Row v507 Y 29 (dgC pp) := hYb.congr PA.out
              have geY : w.heap.size ≤ Y := Nat.le_trans bel_506.size lY
              have neEY : E ≠ Y := by have := E_506.lt; omega
              clear hYa hYb nY oY sY Ye lY
              have T_508 : TrAt v507 B m t := T_506.old bY
              have E_508 : Row v507 E 23 (u8s rr) := E_506.old bY
              have A_508 : Row v507 A 27 (acs za1) := A_506.old bY
              have bel_508 : Below w.heap.size w v507 := below_step bel_506 bel_506.size bY
              clear T_506 E_506 A_506 bel_506 bY
              refine (CBY.out _).mono ?_
              rintro e y509 ⟨⟨qb, cb, rfl, hC⟩, hB⟩
              have T_510 : TrAt y509 B m t := T_508.old hB
              have E_510 : Row y509 E 23 (u8s rr) := E_508.old hB
              have A_510 : Row y509 A 27 (acs za1) := A_508.old hB
              have Y_510 : Row y509 Y 29 (dgC pp) := rrY.old hB
              have bel_510 : Below w.heap.size w y509 := below_step bel_508 bel_508.size hB
              clear T_508 E_508 A_508 rrY bel_508 hB
              go_wp2_with fail
              refine (CRD.out qb cb _ hC).mono ?_
              rintro e y511 ⟨rfl, hB⟩
              have T_512 : TrAt y511 B m t := T_510.old hB
              have E_512 : Row y511 E 23 (u8s rr) := E_510.old hB
              have A_512 : Row y511 A 27 (acs za1) := A_510.old hB
              have Y_512 : Row y511 Y 29 (dgC pp) := Y_510.old hB
              have C_512 : Came y511 qb cb (pathB pp) := hC.below hB
              have bel_512 : Below w.heap.size w y511 := below_step bel_510 bel_510.size hB
              clear T_510 E_510 A_510 Y_510 hC bel_510 hB
              clear C_512
              go_wp2_with (first
                | ((with_reducible refine at_slot 12 ?_); (refine arm_alloc (o := ⟨some 12, _, _, _, _, _⟩) rfl _ rfl (dgC z4) z_path ?_); intro Z v513a Ze hZa nZ; try simp only [Act.put, List.setIfInBounds_toArray, List.set_cons_zero, List.set_cons_succ])
                | ((with_reducible refine arm_store (o := ⟨none, _, _, _, _, _⟩) rfl _ _ _ rfl Z 0 rfl (dgC pp) rfl _ _ hZa PF.out (dgC_ones _) KP.out ?_); intro v513 hZb oZ sZ; try simp only [Act.put, List.setIfInBounds_toArray, List.set_cons_zero, List.set_cons_succ])
                | ((with_reducible refine at_slot 64 ?_); (refine arm_want (.bool false) 64 rfl (by kernel_rfl) (cmp_neq _ _ .i64 (by kernel_rfl) _ _ rfl .i64 (0) (0) rfl rfl false (by decide) _) ?_); try simp only [Act.put, List.setIfInBounds_toArray, List.set_cons_zero, List.set_cons_succ])
                | ((with_reducible refine at_slot 67 ?_); (refine arm_want (.bool false) 67 rfl (by kernel_rfl) (cmp_neq _ _ .i64 (by kernel_rfl) _ _ rfl .i64 (0) (0) rfl rfl false (by decide) _) ?_); try simp only [Act.put, List.setIfInBounds_toArray, List.set_cons_zero, List.set_cons_succ])
                | ((with_reducible refine at_slot 70 ?_); (refine arm_want (.agg (dgC pp).toArray) 70 rfl (by kernel_rfl) (run_op_load _ _ rfl Z 0 rfl (dgC pp) ((Has.refl _).range (hZb.congr PA.out)) KP.out) ?_); try simp only [Act.put, List.setIfInBounds_toArray, List.set_cons_zero, List.set_cons_succ])
                | ((with_reducible refine at_slot 71 ?_); (refine arm_want (.agg (dgC pp).toArray) 71 rfl (by kernel_rfl) (run_op_load _ _ rfl Y 0 rfl (dgC pp) ((Has.refl _).range ((Y_512.old nZ.below).only oZ (by have := Ze.out; have := Y_512.lt; omega))) KP.out) ?_); try simp only [Act.put, List.setIfInBounds_toArray, List.set_cons_zero, List.set_cons_succ])
                | ((with_reducible refine at_slot 72 ?_); (refine arm_want (.bool false) 72 rfl (by kernel_rfl) (run_op_neqP PO.out PO.out PL.out PL.out 29 (by kernel_rfl) (by kernel_rfl) _ _ _ rfl rfl rfl true (iff_of_true rfl rfl) _) ?_); try simp only [Act.put, List.setIfInBounds_toArray, List.set_cons_zero, List.set_cons_succ])
                | ((with_reducible refine at_slot 76 ?_); (refine arm_want (.agg (u8s rr).toArray) 76 rfl (by kernel_rfl) (run_op_load _ _ rfl E 0 rfl (u8s rr) ((Has.refl _).range ((E_512.old nZ.below).only oZ (by have := Ze.out; have := E_512.lt; omega))) (szH KR.out)) ?_); try simp only [Act.put, List.setIfInBounds_toArray, List.set_cons_zero, List.set_cons_succ])
                | ((with_reducible refine at_slot 78 ?_); (refine arm_want (.agg (acs za1).toArray) 78 rfl (by kernel_rfl) (run_op_load _ _ rfl A 0 rfl (acs za1) ((Has.refl _).range ((A_512.old nZ.below).only oZ (by have := Ze.out; have := A_512.lt; omega))) SZ.out) ?_); try simp only [Act.put, List.setIfInBounds_toArray, List.set_cons_zero, List.set_cons_succ])
                | ((with_reducible refine at_slot 79 ?_); (refine arm_want (.agg (dgC pp).toArray) 79 rfl (by kernel_rfl) (run_op_load _ _ rfl Y 0 rfl (dgC pp) ((Has.refl _).range ((Y_512.old nZ.below).only oZ (by have := Ze.out; have := Y_512.lt; omega))) KP.out) ?_); try simp only [Act.put, List.setIfInBounds_toArray, List.set_cons_zero, List.set_cons_succ]))
              have lZ : y511.heap.size ≤ Z := by have := Ze.out; omega
              have bZ : Below y511.heap.size y511 v513 := below_only nZ.below oZ lZ nZ.below.size
              have rrZ : Row v513 Z 29 (dgC pp) := hZb.congr PA.out
              have geZ : w.heap.size ≤ Z := Nat.le_trans bel_512.size lZ
              clear hZa hZb nZ oZ sZ Ze lZ
              have T_514 : TrAt v513 B m t := T_512.old bZ
              have E_514 : Row v513 E 23 (u8s rr) := E_512.old bZ
              have A_514 : Row v513 A 27 (acs za1) := A_512.old bZ
              have Y_514 : Row v513 Y 29 (dgC pp) := Y_512.old bZ
              have bel_514 : Below w.heap.size w v513 := below_step bel_512 bel_512.size bZ
              clear T_512 E_512 A_512 Y_512 bel_512 bZ
              refine (CK3.out _ (HKW.out _ bel_514)).mono ?_
              rintro e y515 ⟨rfl, hB⟩
              have T_516 : TrAt y515 B m t := T_514.old hB
              have E_516 : Row y515 E 23 (u8s rr) := E_514.old hB
              have A_516 : Row y515 A 27 (acs za1) := A_514.old hB
              have Y_516 : Row y515 Y 29 (dgC pp) := Y_514.old hB
              have Z_516 : Row y515 Z 29 (dgC pp) := rrZ.old hB
              have bel_516 : Below w.heap.size w y515 := below_step bel_514 bel_514.size hB
              clear T_514 E_514 A_514 Y_514 rrZ bel_514 hB
              go_wp2_with (first
                | ((with_reducible refine at_slot 81 ?_); (refine arm_want (.bool false) 81 rfl (by kernel_rfl) (cmp_neq _ _ .i64 (by kernel_rfl) _ _ rfl .i64 (0) (0) rfl rfl false (by decide) _) ?_); try simp only [Act.put, List.setIfInBounds_toArray, List.set_cons_zero, List.set_cons_succ]))
              clear A_516
              clear Z_516
              go_cut [14, 15] (fun v e wx => ∃ N : Nat, v = .pointer (some ⟨N, 0, none⟩) ∧ e = .int .i64 0 ∧ Row wx N 23 (u8s dl) ∧ TrAt wx B m t ∧ Row wx E 23 (u8s rr) ∧ Below w.heap.size w wx)
              case first =>
                refine wp_region_held (S := fun w' => Row w' Y 29 (dgC pp) ∧ True) (by kernel_rfl) ?_
                change wpAnyH _ _ _ _ _ _ _ _ y515.drew
                have hd517 : Below y515.heap.size y515 y515.drew := (Below.refl _ _).drew
                have T_518 : TrAt y515.drew B m t := T_516.old hd517
                have E_518 : Row y515.drew E 23 (u8s rr) := E_516.old hd517
                have Y_518 : Row y515.drew Y 29 (dgC pp) := Y_516.old hd517
                have bel_518 : Below w.heap.size w y515.drew := below_step bel_516 bel_516.size hd517
                clear T_516 E_516 Y_516 bel_516 hd517
                generalize y515.drew = yz517 at T_518 E_518 Y_518 bel_518 ⊢
                refine h_take 0 (.int .i64 (p : Int)) rfl 96 rfl (by kernel_rfl) (by kernel_rfl) (by kernel_rfl) (by kernel_rfl) (fun _ _ _ h => h) (fun w' _ => by kernel_rfl) ⟨Y_518, trivial⟩ ?_
                simp only [Act.put, List.setIfInBounds_toArray, List.set_cons_zero, List.set_cons_succ]
                refine h_take 2 (.agg (dgC pp).toArray) rfl 98 rfl (by kernel_rfl) (by kernel_rfl) (by kernel_rfl) (by kernel_rfl) (fun _ _ _ h => h) (fun w' hw => run_op_load _ _ rfl Y (0) rfl (dgC pp) (((Has.refl _)).range hw.1) (KP.out)) ⟨Y_518, trivial⟩ ?_
                simp only [Act.put, List.setIfInBounds_toArray, List.set_cons_zero, List.set_cons_succ]
                refine h_two (i := 1) (j := 7) (by kernel_rfl) ?_ ?_
                · skip
                  refine (o_call rfl 97 rfl (by kernel_rfl) (run_op_call 23 _ _ rfl #[] (by simp only [List.map_toArray, List.map_nil]) Tryd.func23 (by kernel_rfl) (by kernel_rfl) _) (CE.out _ (HKW.out _ bel_518)) ?_)
                  rintro e y519 ⟨rfl, hB⟩
                  have T_520 : TrAt y519 B m t := T_518.old hB
                  have E_520 : Row y519 E 23 (u8s rr) := E_518.old hB
                  have Y_520 : Row y519 Y 29 (dgC pp) := Y_518.old hB
                  have bel_520 : Below w.heap.size w y519 := below_step bel_518 bel_518.size hB
                  clear T_518 E_518 Y_518 bel_518 hB
                  refine ⟨_, rfl, ⟨Y_520, trivial⟩, ?_⟩
                  simp only [Act.put, List.setIfInBounds_toArray, List.set_cons_zero, List.set_cons_succ]
                  refine h_two (i := 3) (j := 7) (by kernel_rfl) ?_ ?_
                  · skip
                    refine (o_call rfl 99 rfl (by kernel_rfl) (run_op_call 8 _ _ rfl #[.int .i64 (p : Int), .agg (u8s digE).toArray, .agg (dgC pp).toArray] (by simp only [List.map_toArray, List.map_cons, List.map_nil]; rfl) Tryd.func8 (by kernel_rfl) (by kernel_rfl) _) (CL.out _ (HKW.out _ bel_520)) ?_)
                    rintro e y521 ⟨rfl, hB⟩
                    have T_522 : TrAt y521 B m t := T_520.old hB
                    have E_522 : Row y521 E 23 (u8s rr) := E_520.old hB
                    have Y_522 : Row y521 Y 29 (dgC pp) := Y_520.old hB
                    have bel_522 : Below w.heap.size w y521 := below_step bel_520 bel_520.size hB
                    clear T_520 E_520 Y_520 bel_520 hB
                    refine ⟨_, rfl, ⟨Y_522, trivial⟩, ?_⟩
                    simp only [Act.put, List.setIfInBounds_toArray, List.set_cons_zero, List.set_cons_succ]
                    refine h_take 4 (.tuple #[.agg (u8s dl).toArray, .int .i64 0]) rfl 95 rfl (by kernel_rfl) (by kernel_rfl) (by kernel_rfl) (by kernel_rfl) (fun _ _ _ h => h) (fun w' _ => by kernel_rfl) ⟨Y_522, trivial⟩ ?_
                    simp only [Act.put, List.setIfInBounds_toArray, List.set_cons_zero, List.set_cons_succ]
                    refine h_take 5 (.agg (u8s dl).toArray) rfl 100 rfl (by kernel_rfl) (by kernel_rfl) (by kernel_rfl) (by kernel_rfl) (fun _ _ _ h => h) (fun w' _ => by kernel_rfl) ⟨Y_522, trivial⟩ ?_
                    simp only [Act.put, List.setIfInBounds_toArray, List.set_cons_zero, List.set_cons_succ]
                    refine h_take 6 (.int .i64 0) rfl 101 rfl (by kernel_rfl) (by kernel_rfl) (by kernel_rfl) (by kernel_rfl) (fun _ _ _ h => h) (fun w' _ => by kernel_rfl) ⟨Y_522, trivial⟩ ?_
                    simp only [Act.put, List.setIfInBounds_toArray, List.set_cons_zero, List.set_cons_succ]
                    refine h_one (i := 7) (by kernel_rfl) (o_value _ rfl 14 rfl (by kernel_rfl) (run_op_alloc _ rfl (u8s zh) zH) ?_)
                    have hNy523 := (new_alloc y521 (.cells (u8s zh).toArray 23)).below
                    have rNy523 : Row (y521.alloc (.cells (u8s zh).toArray 23)) y521.heap.size 23 (u8s zh) := heap_alloc_new _ _
                    have geN : w.heap.size ≤ y521.heap.size := bel_522.size
                    generalize y521.alloc (.cells (u8s zh).toArray 23) = y523 at hNy523 rNy523 ⊢
                    have neEN : E ≠ y521.heap.size := by have := E_522.lt; omega
                    have neYN : Y ≠ y521.heap.size := by have := Y_522.lt; omega
                    have tbN : B ≠ y521.heap.size := by have := T_522.lt; omega
                    have tmN : m ≠ y521.heap.size := by have := T_522.mlt; omega
                    have T_524 : TrAt y523 B m t := T_522.old hNy523
                    have E_524 : Row y523 E 23 (u8s rr) := E_522.old hNy523
                    have Y_524 : Row y523 Y 29 (dgC pp) := Y_522.old hNy523
                    have bel_524 : Below w.heap.size w y523 := below_step bel_522 bel_522.size hNy523
                    clear T_522 E_522 Y_522 bel_522 hNy523
                    generalize y521.heap.size = N at rNy523 geN neEN neYN tbN tmN ⊢
                    refine ⟨⟨Y_524, trivial⟩, ?_⟩
                    simp only [Act.put, List.setIfInBounds_toArray, List.set_cons_zero, List.set_cons_succ]
                    refine h_one (i := 8) (by kernel_rfl) (o_skip rfl rfl (by kernel_rfl) (run_op_store _ _ _ rfl N (0) rfl (u8s dl) rfl _ _ rNy523 (fitH KL.out) (u8s_one _) (szH KL.out)) ?_)
                    have rq := row_setRow rNy523 (lay (u8s zh) (0) (u8s dl))
                    have oq := Only.setRow N y523 (lay (u8s zh) (0) (u8s dl)).toArray
                    generalize y523.setRow N (lay (u8s zh) (0) (u8s dl)).toArray = y525 at rq oq ⊢
                    have T_526 : TrAt y525 B m t := T_524.only oq tbN tmN
                    have E_526 : Row y525 E 23 (u8s rr) := E_524.only oq neEN
                    have Y_526 : Row y525 Y 29 (dgC pp) := Y_524.only oq neYN
                    have N_526 : Row y525 N 23 (u8s dl) := rq.congr (allH KL.out)
                    have bel_526 : Below w.heap.size w y525 := below_only bel_524 oq geN bel_524.size
                    clear T_524 E_524 Y_524 rNy523 bel_524 oq
                    clear rq
                    refine ⟨⟨Y_526, trivial⟩, ?_⟩
                    refine h_take 9 (.int .i64 0) rfl 15 rfl (by kernel_rfl) (by kernel_rfl) (by kernel_rfl) (by kernel_rfl) (fun _ _ _ h => h) (fun w' _ => by kernel_rfl) ⟨Y_526, trivial⟩ ?_
                    simp only [Act.put, List.setIfInBounds_toArray, List.set_cons_zero, List.set_cons_succ]
                    refine wpAnyH_done (by kernel_rfl) ?_ _
                    go_wp2_with fail
                    go_meet
                    exact ⟨N, rfl, rfl, N_526, T_526, E_526, bel_526⟩
                  · skip
                    refine (o_value _ rfl 14 rfl (by kernel_rfl) (run_op_alloc _ rfl (u8s zh) zH) ?_)
                    have hNy521 := (new_alloc y519 (.cells (u8s zh).toArray 23)).below
                    have rNy521 : Row (y519.alloc (.cells (u8s zh).toArray 23)) y519.heap.size 23 (u8s zh) := heap_alloc_new _ _
                    have geN : w.heap.size ≤ y519.heap.size := bel_520.size
                    generalize y519.alloc (.cells (u8s zh).toArray 23) = y521 at hNy521 rNy521 ⊢
                    have neEN : E ≠ y519.heap.size := by have := E_520.lt; omega
                    have neYN : Y ≠ y519.heap.size := by have := Y_520.lt; omega
                    have tbN : B ≠ y519.heap.size := by have := T_520.lt; omega
                    have tmN : m ≠ y519.heap.size := by have := T_520.mlt; omega
                    have T_522 : TrAt y521 B m t := T_520.old hNy521
                    have E_522 : Row y521 E 23 (u8s rr) := E_520.old hNy521
                    have Y_522 : Row y521 Y 29 (dgC pp) := Y_520.old hNy521
                    have bel_522 : Below w.heap.size w y521 := below_step bel_520 bel_520.size hNy521
                    clear T_520 E_520 Y_520 bel_520 hNy521
                    generalize y519.heap.size = N at rNy521 geN neEN neYN tbN tmN ⊢
                    refine ⟨⟨Y_522, trivial⟩, ?_⟩
                    simp only [Act.put, List.setIfInBounds_toArray, List.set_cons_zero, List.set_cons_succ]
                    refine h_one (i := 3) (by kernel_rfl) (o_call rfl 99 rfl (by kernel_rfl) (run_op_call 8 _ _ rfl #[.int .i64 (p : Int), .agg (u8s digE).toArray, .agg (dgC pp).toArray] (by simp only [List.map_toArray, List.map_cons, List.map_nil]; rfl) Tryd.func8 (by kernel_rfl) (by kernel_rfl) _) (CL.out _ (HKW.out _ bel_522)) ?_)
                    rintro e y523 ⟨rfl, hB⟩
                    have T_524 : TrAt y523 B m t := T_522.old hB
                    have E_524 : Row y523 E 23 (u8s rr) := E_522.old hB
                    have Y_524 : Row y523 Y 29 (dgC pp) := Y_522.old hB
                    have N_524 : Row y523 N 23 (u8s zh) := rNy521.old hB
                    have bel_524 : Below w.heap.size w y523 := below_step bel_522 bel_522.size hB
                    clear T_522 E_522 Y_522 rNy521 bel_522 hB
                    refine ⟨_, rfl, ⟨Y_524, trivial⟩, ?_⟩
                    simp only [Act.put, List.setIfInBounds_toArray, List.set_cons_zero, List.set_cons_succ]
                    refine h_take 4 (.tuple #[.agg (u8s dl).toArray, .int .i64 0]) rfl 95 rfl (by kernel_rfl) (by kernel_rfl) (by kernel_rfl) (by kernel_rfl) (fun _ _ _ h => h) (fun w' _ => by kernel_rfl) ⟨Y_524, trivial⟩ ?_
                    simp only [Act.put, List.setIfInBounds_toArray, List.set_cons_zero, List.set_cons_succ]
                    refine h_take 5 (.agg (u8s dl).toArray) rfl 100 rfl (by kernel_rfl) (by kernel_rfl) (by kernel_rfl) (by kernel_rfl) (fun _ _ _ h => h) (fun w' _ => by kernel_rfl) ⟨Y_524, trivial⟩ ?_
                    simp only [Act.put, List.setIfInBounds_toArray, List.set_cons_zero, List.set_cons_succ]
                    refine h_take 6 (.int .i64 0) rfl 101 rfl (by kernel_rfl) (by kernel_rfl) (by kernel_rfl) (by kernel_rfl) (fun _ _ _ h => h) (fun w' _ => by kernel_rfl) ⟨Y_524, trivial⟩ ?_
                    simp only [Act.put, List.setIfInBounds_toArray, List.set_cons_zero, List.set_cons_succ]
                    refine h_one (i := 8) (by kernel_rfl) (o_skip rfl rfl (by kernel_rfl) (run_op_store _ _ _ rfl N (0) rfl (u8s dl) rfl _ _ N_524 (fitH KL.out) (u8s_one _) (szH KL.out)) ?_)
                    have rq := row_setRow N_524 (lay (u8s zh) (0) (u8s dl))
                    have oq := Only.setRow N y523 (lay (u8s zh) (0) (u8s dl)).toArray
                    generalize y523.setRow N (lay (u8s zh) (0) (u8s dl)).toArray = y525 at rq oq ⊢
                    have T_526 : TrAt y525 B m t := T_524.only oq tbN tmN
                    have E_526 : Row y525 E 23 (u8s rr) := E_524.only oq neEN
                    have Y_526 : Row y525 Y 29 (dgC pp) := Y_524.only oq neYN
                    have N_526 : Row y525 N 23 (u8s dl) := rq.congr (allH KL.out)
                    have bel_526 : Below w.heap.size w y525 := below_only bel_524 oq geN bel_524.size
                    clear T_524 E_524 Y_524 N_524 bel_524 oq
                    clear rq
                    refine ⟨⟨Y_526, trivial⟩, ?_⟩
                    refine h_take 9 (.int .i64 0) rfl 15 rfl (by kernel_rfl) (by kernel_rfl) (by kernel_rfl) (by kernel_rfl) (fun _ _ _ h => h) (fun w' _ => by kernel_rfl) ⟨Y_526, trivial⟩ ?_
                    simp only [Act.put, List.setIfInBounds_toArray, List.set_cons_zero, List.set_cons_succ]
                    refine wpAnyH_done (by kernel_rfl) ?_ _
                    go_wp2_with fail
                    go_meet
                    exact ⟨N, rfl, rfl, N_526, T_526, E_526, bel_526⟩
                · skip
                  refine (o_value _ rfl 14 rfl (by kernel_rfl) (run_op_alloc _ rfl (u8s zh) zH) ?_)
                  have hNy519 := (new_alloc yz517 (.cells (u8s zh).toArray 23)).below
                  have rNy519 : Row (yz517.alloc (.cells (u8s zh).toArray 23)) yz517.heap.size 23 (u8s zh) := heap_alloc_new _ _
                  have geN : w.heap.size ≤ yz517.heap.size := bel_518.size
                  generalize yz517.alloc (.cells (u8s zh).toArray 23) = y519 at hNy519 rNy519 ⊢
                  have neEN : E ≠ yz517.heap.size := by have := E_518.lt; omega
                  have neYN : Y ≠ yz517.heap.size := by have := Y_518.lt; omega
                  have tbN : B ≠ yz517.heap.size := by have := T_518.lt; omega
                  have tmN : m ≠ yz517.heap.size := by have := T_518.mlt; omega
                  have T_520 : TrAt y519 B m t := T_518.old hNy519
                  have E_520 : Row y519 E 23 (u8s rr) := E_518.old hNy519
                  have Y_520 : Row y519 Y 29 (dgC pp) := Y_518.old hNy519
                  have bel_520 : Below w.heap.size w y519 := below_step bel_518 bel_518.size hNy519
                  clear T_518 E_518 Y_518 bel_518 hNy519
                  generalize yz517.heap.size = N at rNy519 geN neEN neYN tbN tmN ⊢
                  refine ⟨⟨Y_520, trivial⟩, ?_⟩
                  simp only [Act.put, List.setIfInBounds_toArray, List.set_cons_zero, List.set_cons_succ]
                  refine h_one (i := 1) (by kernel_rfl) (o_call rfl 97 rfl (by kernel_rfl) (run_op_call 23 _ _ rfl #[] (by simp only [List.map_toArray, List.map_nil]) Tryd.func23 (by kernel_rfl) (by kernel_rfl) _) (CE.out _ (HKW.out _ bel_520)) ?_)
                  rintro e y521 ⟨rfl, hB⟩
                  have T_522 : TrAt y521 B m t := T_520.old hB
                  have E_522 : Row y521 E 23 (u8s rr) := E_520.old hB
                  have Y_522 : Row y521 Y 29 (dgC pp) := Y_520.old hB
                  have N_522 : Row y521 N 23 (u8s zh) := rNy519.old hB
                  have bel_522 : Below w.heap.size w y521 := below_step bel_520 bel_520.size hB
                  clear T_520 E_520 Y_520 rNy519 bel_520 hB
                  refine ⟨_, rfl, ⟨Y_522, trivial⟩, ?_⟩
                  simp only [Act.put, List.setIfInBounds_toArray, List.set_cons_zero, List.set_cons_succ]
                  refine h_one (i := 3) (by kernel_rfl) (o_call rfl 99 rfl (by kernel_rfl) (run_op_call 8 _ _ rfl #[.int .i64 (p : Int), .agg (u8s digE).toArray, .agg (dgC pp).toArray] (by simp only [List.map_toArray, List.map_cons, List.map_nil]; rfl) Tryd.func8 (by kernel_rfl) (by kernel_rfl) _) (CL.out _ (HKW.out _ bel_522)) ?_)
                  rintro e y523 ⟨rfl, hB⟩
                  have T_524 : TrAt y523 B m t := T_522.old hB
                  have E_524 : Row y523 E 23 (u8s rr) := E_522.old hB
                  have Y_524 : Row y523 Y 29 (dgC pp) := Y_522.old hB
                  have N_524 : Row y523 N 23 (u8s zh) := N_522.old hB
                  have bel_524 : Below w.heap.size w y523 := below_step bel_522 bel_522.size hB
                  clear T_522 E_522 Y_522 N_522 bel_522 hB
                  refine ⟨_, rfl, ⟨Y_524, trivial⟩, ?_⟩
                  simp only [Act.put, List.setIfInBounds_toArray, List.set_cons_zero, List.set_cons_succ]
                  refine h_take 4 (.tuple #[.agg (u8s dl).toArray, .int .i64 0]) rfl 95 rfl (by kernel_rfl) (by kernel_rfl) (by kernel_rfl) (by kernel_rfl) (fun _ _ _ h => h) (fun w' _ => by kernel_rfl) ⟨Y_524, trivial⟩ ?_
                  simp only [Act.put, List.setIfInBounds_toArray, List.set_cons_zero, List.set_cons_succ]
                  refine h_take 5 (.agg (u8s dl).toArray) rfl 100 rfl (by kernel_rfl) (by kernel_rfl) (by kernel_rfl) (by kernel_rfl) (fun _ _ _ h => h) (fun w' _ => by kernel_rfl) ⟨Y_524, trivial⟩ ?_
                  simp only [Act.put, List.setIfInBounds_toArray, List.set_cons_zero, List.set_cons_succ]
                  refine h_take 6 (.int .i64 0) rfl 101 rfl (by kernel_rfl) (by kernel_rfl) (by kernel_rfl) (by kernel_rfl) (fun _ _ _ h => h) (fun w' _ => by kernel_rfl) ⟨Y_524, trivial⟩ ?_
                  simp only [Act.put, List.setIfInBounds_toArray, List.set_cons_zero, List.set_cons_succ]
                  refine h_one (i := 8) (by kernel_rfl) (o_skip rfl rfl (by kernel_rfl) (run_op_store _ _ _ rfl N (0) rfl (u8s dl) rfl _ _ N_524 (fitH KL.out) (u8s_one _) (szH KL.out)) ?_)
                  have rq := row_setRow N_524 (lay (u8s zh) (0) (u8s dl))
                  have oq := Only.setRow N y523 (lay (u8s zh) (0) (u8s dl)).toArray
                  generalize y523.setRow N (lay (u8s zh) (0) (u8s dl)).toArray = y525 at rq oq ⊢
                  have T_526 : TrAt y525 B m t := T_524.only oq tbN tmN
                  have E_526 : Row y525 E 23 (u8s rr) := E_524.only oq neEN
                  have Y_526 : Row y525 Y 29 (dgC pp) := Y_524.only oq neYN
                  have N_526 : Row y525 N 23 (u8s dl) := rq.congr (allH KL.out)
                  have bel_526 : Below w.heap.size w y525 := below_only bel_524 oq geN bel_524.size
                  clear T_524 E_524 Y_524 N_524 bel_524 oq
                  clear rq
                  refine ⟨⟨Y_526, trivial⟩, ?_⟩
                  refine h_take 9 (.int .i64 0) rfl 15 rfl (by kernel_rfl) (by kernel_rfl) (by kernel_rfl) (by kernel_rfl) (fun _ _ _ h => h) (fun w' _ => by kernel_rfl) ⟨Y_526, trivial⟩ ?_
                  simp only [Act.put, List.setIfInBounds_toArray, List.set_cons_zero, List.set_cons_succ]
                  refine wpAnyH_done (by kernel_rfl) ?_ _
                  go_wp2_with fail
                  go_meet
                  exact ⟨N, rfl, rfl, N_526, T_526, E_526, bel_526⟩
              case rest =>
                obtain ⟨N, rfl, rfl, rN, rT, rE, belc⟩ := hcut
                clear T_516 E_516 Y_516 bel_516
                go_wp2_with (first
                  | ((with_reducible refine at_slot 103 ?_); (refine arm_want (.bool false) 103 rfl (by kernel_rfl) (cmp_neq _ _ .i64 (by kernel_rfl) _ _ rfl .i64 (0) (0) rfl rfl false (by decide) _) ?_); try simp only [Act.put, List.setIfInBounds_toArray, List.set_cons_zero, List.set_cons_succ]))
                try simp only [Act.put]
                go_roundw
                case rel => exact ⟨⟨p + 1, by omega, by go_num⟩, rT, rE, belc⟩
                case measure => simp [intOf]; omega
            | false =>
              have CK2 := Lib.hid CK.out
              have CK3 : Hid (∀ w0, w0.rangeAt 1 0 (u32s ks) → Calls Tryd.prog 15 #[.agg (u8s rr).toArray, .int .i64 (p : Int), .agg (acs za1).toArray, .agg (dgC pp).toArray] w0 fun e w' => e = .returned (.int .i64 1) ∧ Below w0.heap.size w0 w') := Lib.hid CK.out
              clear CK CK2
              have HNL2 := Lib.hid (HNL.out rfl)
              clear HNL
              go_wp2_with fail
              refine (CG.out _ hT).mono ?_
              rintro e y501 ⟨rfl, hB⟩
              have T_502 : TrAt y501 B m t := hT.old hB
              have E_502 : Row y501 E 23 (u8s rr) := hE.old hB
              have bel_502 : Below w.heap.size w y501 := below_step bel bel.size hB
              clear hT hE bel hB
              go_wp2_with (first
                | ((with_reducible refine at_slot 8 ?_); (refine arm_alloc (o := ⟨some 8, _, _, _, _, _⟩) rfl _ rfl (acs za) z_acc ?_); intro A v503a Ae hAa nA; try simp only [Act.put, List.setIfInBounds_toArray, List.set_cons_zero, List.set_cons_succ])
                | ((with_reducible refine arm_store (o := ⟨none, _, _, _, _, _⟩) rfl _ _ _ rfl A 0 rfl (acs za1) rfl _ _ hAa FZ.out OZ.out SZ.out ?_); intro v503 hAb oA sA; try simp only [Act.put, List.setIfInBounds_toArray, List.set_cons_zero, List.set_cons_succ]))
              have lA : y501.heap.size ≤ A := by have := Ae.out; omega
              have bA : Below y501.heap.size y501 v503 := below_only nA.below oA lA nA.below.size
              have rrA : Row v503 A 27 (acs za1) := hAb.congr LZ.out
              have geA : w.heap.size ≤ A := Nat.le_trans bel_502.size lA
              have neEA : E ≠ A := by have := E_502.lt; omega
              clear hAa hAb nA oA sA Ae lA
              have T_504 : TrAt v503 B m t := T_502.old bA
              have E_504 : Row v503 E 23 (u8s rr) := E_502.old bA
              have bel_504 : Below w.heap.size w v503 := below_step bel_502 bel_502.size bA
              clear T_502 E_502 bel_502 bA
              refine (CP.out _ T_504 (HKW.out _ bel_504)).mono ?_
              rintro e y505 ⟨rfl, hB⟩
              have T_506 : TrAt y505 B m t := T_504.old hB
              have E_506 : Row y505 E 23 (u8s rr) := E_504.old hB
              have A_506 : Row y505 A 27 (acs za1) := rrA.old hB
              have bel_506 : Below w.heap.size w y505 := below_step bel_504 bel_504.size hB
              clear T_504 E_504 rrA bel_504 hB
              go_wp2_with (first
                | ((with_reducible refine at_slot 10 ?_); (refine arm_alloc (o := ⟨some 10, _, _, _, _, _⟩) rfl _ rfl (dgC z4) z_path ?_); intro Y v507a Ye hYa nY; try simp only [Act.put, List.setIfInBounds_toArray, List.set_cons_zero, List.set_cons_succ])
                | ((with_reducible refine arm_store (o := ⟨none, _, _, _, _, _⟩) rfl _ _ _ rfl Y 0 rfl (dgC pp) rfl _ _ hYa PF.out (dgC_ones _) KP.out ?_); intro v507 hYb oY sY; try simp only [Act.put, List.setIfInBounds_toArray, List.set_cons_zero, List.set_cons_succ])
                | ((with_reducible refine at_slot 58 ?_); (refine arm_load (o := ⟨some 58, _, _, _, _, _⟩) rfl _ _ rfl Y 0 rfl (dgC pp) ((Has.refl _).range (hYb.congr PA.out)) KP.out ?_); try simp only [Act.put, List.setIfInBounds_toArray, List.set_cons_zero, List.set_cons_succ]))
              have lY : y505.heap.size ≤ Y := by have := Ye.out; omega
              have bY : Below y505.heap.size y505 v507 := below_only nY.below oY lY nY.below.size
              have rrY : Row v507 Y 29 (dgC pp) := hYb.congr PA.out
              have geY : w.heap.size ≤ Y := Nat.le_trans bel_506.size lY
              have neEY : E ≠ Y := by have := E_506.lt; omega
              clear hYa hYb nY oY sY Ye lY
              have T_508 : TrAt v507 B m t := T_506.old bY
              have E_508 : Row v507 E 23 (u8s rr) := E_506.old bY
              have A_508 : Row v507 A 27 (acs za1) := A_506.old bY
              have bel_508 : Below w.heap.size w v507 := below_step bel_506 bel_506.size bY
              clear T_506 E_506 A_506 bel_506 bY
              refine (CBY.out _).mono ?_
              rintro e y509 ⟨⟨qb, cb, rfl, hC⟩, hB⟩
              have T_510 : TrAt y509 B m t := T_508.old hB
              have E_510 : Row y509 E 23 (u8s rr) := E_508.old hB
              have A_510 : Row y509 A 27 (acs za1) := A_508.old hB
              have Y_510 : Row y509 Y 29 (dgC pp) := rrY.old hB
              have bel_510 : Below w.heap.size w y509 := below_step bel_508 bel_508.size hB
              clear T_508 E_508 A_508 rrY bel_508 hB
              go_wp2_with fail
              refine (CRD.out qb cb _ hC).mono ?_
              rintro e y511 ⟨rfl, hB⟩
              have T_512 : TrAt y511 B m t := T_510.old hB
              have E_512 : Row y511 E 23 (u8s rr) := E_510.old hB
              have A_512 : Row y511 A 27 (acs za1) := A_510.old hB
              have Y_512 : Row y511 Y 29 (dgC pp) := Y_510.old hB
              have C_512 : Came y511 qb cb (pathB pp) := hC.below hB
              have bel_512 : Below w.heap.size w y511 := below_step bel_510 bel_510.size hB
              clear T_510 E_510 A_510 Y_510 hC bel_510 hB
              clear C_512
              go_wp2_with (first
                | ((with_reducible refine at_slot 12 ?_); (refine arm_alloc (o := ⟨some 12, _, _, _, _, _⟩) rfl _ rfl (dgC z4) z_path ?_); intro Z v513a Ze hZa nZ; try simp only [Act.put, List.setIfInBounds_toArray, List.set_cons_zero, List.set_cons_succ])
                | ((with_reducible refine arm_store (o := ⟨none, _, _, _, _, _⟩) rfl _ _ _ rfl Z 0 rfl (dgC pp) rfl _ _ hZa PF.out (dgC_ones _) KP.out ?_); intro v513 hZb oZ sZ; try simp only [Act.put, List.setIfInBounds_toArray, List.set_cons_zero, List.set_cons_succ])
                | ((with_reducible refine at_slot 64 ?_); (refine arm_want (.bool false) 64 rfl (by kernel_rfl) (cmp_neq _ _ .i64 (by kernel_rfl) _ _ rfl .i64 (0) (0) rfl rfl false (by decide) _) ?_); try simp only [Act.put, List.setIfInBounds_toArray, List.set_cons_zero, List.set_cons_succ])
                | ((with_reducible refine at_slot 67 ?_); (refine arm_want (.bool false) 67 rfl (by kernel_rfl) (cmp_neq _ _ .i64 (by kernel_rfl) _ _ rfl .i64 (0) (0) rfl rfl false (by decide) _) ?_); try simp only [Act.put, List.setIfInBounds_toArray, List.set_cons_zero, List.set_cons_succ])
                | ((with_reducible refine at_slot 70 ?_); (refine arm_want (.agg (dgC pp).toArray) 70 rfl (by kernel_rfl) (run_op_load _ _ rfl Z 0 rfl (dgC pp) ((Has.refl _).range (hZb.congr PA.out)) KP.out) ?_); try simp only [Act.put, List.setIfInBounds_toArray, List.set_cons_zero, List.set_cons_succ])
                | ((with_reducible refine at_slot 71 ?_); (refine arm_want (.agg (dgC pp).toArray) 71 rfl (by kernel_rfl) (run_op_load _ _ rfl Y 0 rfl (dgC pp) ((Has.refl _).range ((Y_512.old nZ.below).only oZ (by have := Ze.out; have := Y_512.lt; omega))) KP.out) ?_); try simp only [Act.put, List.setIfInBounds_toArray, List.set_cons_zero, List.set_cons_succ])
                | ((with_reducible refine at_slot 72 ?_); (refine arm_want (.bool false) 72 rfl (by kernel_rfl) (run_op_neqP PO.out PO.out PL.out PL.out 29 (by kernel_rfl) (by kernel_rfl) _ _ _ rfl rfl rfl true (iff_of_true rfl rfl) _) ?_); try simp only [Act.put, List.setIfInBounds_toArray, List.set_cons_zero, List.set_cons_succ])
                | ((with_reducible refine at_slot 87 ?_); (refine arm_want (.agg (u8s rr).toArray) 87 rfl (by kernel_rfl) (run_op_load _ _ rfl E 0 rfl (u8s rr) ((Has.refl _).range ((E_512.old nZ.below).only oZ (by have := Ze.out; have := E_512.lt; omega))) (szH KR.out)) ?_); try simp only [Act.put, List.setIfInBounds_toArray, List.set_cons_zero, List.set_cons_succ])
                | ((with_reducible refine at_slot 89 ?_); (refine arm_want (.agg (acs za1).toArray) 89 rfl (by kernel_rfl) (run_op_load _ _ rfl A 0 rfl (acs za1) ((Has.refl _).range ((A_512.old nZ.below).only oZ (by have := Ze.out; have := A_512.lt; omega))) SZ.out) ?_); try simp only [Act.put, List.setIfInBounds_toArray, List.set_cons_zero, List.set_cons_succ])
                | ((with_reducible refine at_slot 90 ?_); (refine arm_want (.agg (dgC pp).toArray) 90 rfl (by kernel_rfl) (run_op_load _ _ rfl Y 0 rfl (dgC pp) ((Has.refl _).range ((Y_512.old nZ.below).only oZ (by have := Ze.out; have := Y_512.lt; omega))) KP.out) ?_); try simp only [Act.put, List.setIfInBounds_toArray, List.set_cons_zero, List.set_cons_succ]))
              have lZ : y511.heap.size ≤ Z := by have := Ze.out; omega
              have bZ : Below y511.heap.size y511 v513 := below_only nZ.below oZ lZ nZ.below.size
              have rrZ : Row v513 Z 29 (dgC pp) := hZb.congr PA.out
              have geZ : w.heap.size ≤ Z := Nat.le_trans bel_512.size lZ
              clear hZa hZb nZ oZ sZ Ze lZ
              have T_514 : TrAt v513 B m t := T_512.old bZ
              have E_514 : Row v513 E 23 (u8s rr) := E_512.old bZ
              have A_514 : Row v513 A 27 (acs za1) := A_512.old bZ
              have Y_514 : Row v513 Y 29 (dgC pp) := Y_512.old bZ
              have bel_514 : Below w.heap.size w v513 := below_step bel_512 bel_512.size bZ
              clear T_512 E_512 A_512 Y_512 bel_512 bZ
              refine (CK3.out _ (HKW.out _ bel_514)).mono ?_
              rintro e y515 ⟨rfl, hB⟩
              have T_516 : TrAt y515 B m t := T_514.old hB
              have E_516 : Row y515 E 23 (u8s rr) := E_514.old hB
              have A_516 : Row y515 A 27 (acs za1) := A_514.old hB
              have Y_516 : Row y515 Y 29 (dgC pp) := Y_514.old hB
              have Z_516 : Row y515 Z 29 (dgC pp) := rrZ.old hB
              have bel_516 : Below w.heap.size w y515 := below_step bel_514 bel_514.size hB
              clear T_514 E_514 A_514 Y_514 rrZ bel_514 hB
              go_wp2_with (first
                | ((with_reducible refine at_slot 92 ?_); (refine arm_want (.bool false) 92 rfl (by kernel_rfl) (cmp_neq _ _ .i64 (by kernel_rfl) _ _ rfl .i64 (1) (1) rfl rfl false (by decide) _) ?_); try simp only [Act.put, List.setIfInBounds_toArray, List.set_cons_zero, List.set_cons_succ]))
              clear A_516
              clear Z_516
              go_cut [14, 15] (fun v e wx => ∃ N : Nat, v = .pointer (some ⟨N, 0, none⟩) ∧ e = .int .i64 0 ∧ Row wx N 23 (u8s dl) ∧ TrAt wx B m t ∧ Row wx E 23 (u8s rr) ∧ Below w.heap.size w wx)
              case first =>
                refine wp_region_held (S := fun w' => Row w' Y 29 (dgC pp) ∧ True) (by kernel_rfl) ?_
                change wpAnyH _ _ _ _ _ _ _ _ y515.drew
                have hd517 : Below y515.heap.size y515 y515.drew := (Below.refl _ _).drew
                have T_518 : TrAt y515.drew B m t := T_516.old hd517
                have E_518 : Row y515.drew E 23 (u8s rr) := E_516.old hd517
                have Y_518 : Row y515.drew Y 29 (dgC pp) := Y_516.old hd517
                have bel_518 : Below w.heap.size w y515.drew := below_step bel_516 bel_516.size hd517
                clear T_516 E_516 Y_516 bel_516 hd517
                generalize y515.drew = yz517 at T_518 E_518 Y_518 bel_518 ⊢
                refine h_take 0 (.int .i64 (p : Int)) rfl 96 rfl (by kernel_rfl) (by kernel_rfl) (by kernel_rfl) (by kernel_rfl) (fun _ _ _ h => h) (fun w' _ => by kernel_rfl) ⟨Y_518, trivial⟩ ?_
                simp only [Act.put, List.setIfInBounds_toArray, List.set_cons_zero, List.set_cons_succ]
                refine h_take 2 (.agg (dgC pp).toArray) rfl 98 rfl (by kernel_rfl) (by kernel_rfl) (by kernel_rfl) (by kernel_rfl) (fun _ _ _ h => h) (fun w' hw => run_op_load _ _ rfl Y (0) rfl (dgC pp) (((Has.refl _)).range hw.1) (KP.out)) ⟨Y_518, trivial⟩ ?_
                simp only [Act.put, List.setIfInBounds_toArray, List.set_cons_zero, List.set_cons_succ]
                refine h_two (i := 1) (j := 7) (by kernel_rfl) ?_ ?_
                · skip
                  refine (o_call rfl 97 rfl (by kernel_rfl) (run_op_call 23 _ _ rfl #[] (by simp only [List.map_toArray, List.map_nil]) Tryd.func23 (by kernel_rfl) (by kernel_rfl) _) (CE.out _ (HKW.out _ bel_518)) ?_)
                  rintro e y519 ⟨rfl, hB⟩
                  have T_520 : TrAt y519 B m t := T_518.old hB
                  have E_520 : Row y519 E 23 (u8s rr) := E_518.old hB
                  have Y_520 : Row y519 Y 29 (dgC pp) := Y_518.old hB
                  have bel_520 : Below w.heap.size w y519 := below_step bel_518 bel_518.size hB
                  clear T_518 E_518 Y_518 bel_518 hB
                  refine ⟨_, rfl, ⟨Y_520, trivial⟩, ?_⟩
                  simp only [Act.put, List.setIfInBounds_toArray, List.set_cons_zero, List.set_cons_succ]
                  refine h_two (i := 3) (j := 7) (by kernel_rfl) ?_ ?_
                  · skip
                    refine (o_call rfl 99 rfl (by kernel_rfl) (run_op_call 8 _ _ rfl #[.int .i64 (p : Int), .agg (u8s digE).toArray, .agg (dgC pp).toArray] (by simp only [List.map_toArray, List.map_cons, List.map_nil]; rfl) Tryd.func8 (by kernel_rfl) (by kernel_rfl) _) (CL.out _ (HKW.out _ bel_520)) ?_)
                    rintro e y521 ⟨rfl, hB⟩
                    have T_522 : TrAt y521 B m t := T_520.old hB
                    have E_522 : Row y521 E 23 (u8s rr) := E_520.old hB
                    have Y_522 : Row y521 Y 29 (dgC pp) := Y_520.old hB
                    have bel_522 : Below w.heap.size w y521 := below_step bel_520 bel_520.size hB
                    clear T_520 E_520 Y_520 bel_520 hB
                    refine ⟨_, rfl, ⟨Y_522, trivial⟩, ?_⟩
                    simp only [Act.put, List.setIfInBounds_toArray, List.set_cons_zero, List.set_cons_succ]
                    refine h_take 4 (.tuple #[.agg (u8s dl).toArray, .int .i64 0]) rfl 95 rfl (by kernel_rfl) (by kernel_rfl) (by kernel_rfl) (by kernel_rfl) (fun _ _ _ h => h) (fun w' _ => by kernel_rfl) ⟨Y_522, trivial⟩ ?_
                    simp only [Act.put, List.setIfInBounds_toArray, List.set_cons_zero, List.set_cons_succ]
                    refine h_take 5 (.agg (u8s dl).toArray) rfl 100 rfl (by kernel_rfl) (by kernel_rfl) (by kernel_rfl) (by kernel_rfl) (fun _ _ _ h => h) (fun w' _ => by kernel_rfl) ⟨Y_522, trivial⟩ ?_
                    simp only [Act.put, List.setIfInBounds_toArray, List.set_cons_zero, List.set_cons_succ]
                    refine h_take 6 (.int .i64 0) rfl 101 rfl (by kernel_rfl) (by kernel_rfl) (by kernel_rfl) (by kernel_rfl) (fun _ _ _ h => h) (fun w' _ => by kernel_rfl) ⟨Y_522, trivial⟩ ?_
                    simp only [Act.put, List.setIfInBounds_toArray, List.set_cons_zero, List.set_cons_succ]
                    refine h_one (i := 7) (by kernel_rfl) (o_value _ rfl 14 rfl (by kernel_rfl) (run_op_alloc _ rfl (u8s zh) zH) ?_)
                    have hNy523 := (new_alloc y521 (.cells (u8s zh).toArray 23)).below
                    have rNy523 : Row (y521.alloc (.cells (u8s zh).toArray 23)) y521.heap.size 23 (u8s zh) := heap_alloc_new _ _
                    have geN : w.heap.size ≤ y521.heap.size := bel_522.size
                    generalize y521.alloc (.cells (u8s zh).toArray 23) = y523 at hNy523 rNy523 ⊢
                    have neEN : E ≠ y521.heap.size := by have := E_522.lt; omega
                    have neYN : Y ≠ y521.heap.size := by have := Y_522.lt; omega
                    have tbN : B ≠ y521.heap.size := by have := T_522.lt; omega
                    have tmN : m ≠ y521.heap.size := by have := T_522.mlt; omega
                    have T_524 : TrAt y523 B m t := T_522.old hNy523
                    have E_524 : Row y523 E 23 (u8s rr) := E_522.old hNy523
                    have Y_524 : Row y523 Y 29 (dgC pp) := Y_522.old hNy523
                    have bel_524 : Below w.heap.size w y523 := below_step bel_522 bel_522.size hNy523
                    clear T_522 E_522 Y_522 bel_522 hNy523
                    generalize y521.heap.size = N at rNy523 geN neEN neYN tbN tmN ⊢
                    refine ⟨⟨Y_524, trivial⟩, ?_⟩
                    simp only [Act.put, List.setIfInBounds_toArray, List.set_cons_zero, List.set_cons_succ]
                    refine h_one (i := 8) (by kernel_rfl) (o_skip rfl rfl (by kernel_rfl) (run_op_store _ _ _ rfl N (0) rfl (u8s dl) rfl _ _ rNy523 (fitH KL.out) (u8s_one _) (szH KL.out)) ?_)
                    have rq := row_setRow rNy523 (lay (u8s zh) (0) (u8s dl))
                    have oq := Only.setRow N y523 (lay (u8s zh) (0) (u8s dl)).toArray
                    generalize y523.setRow N (lay (u8s zh) (0) (u8s dl)).toArray = y525 at rq oq ⊢
                    have T_526 : TrAt y525 B m t := T_524.only oq tbN tmN
                    have E_526 : Row y525 E 23 (u8s rr) := E_524.only oq neEN
                    have Y_526 : Row y525 Y 29 (dgC pp) := Y_524.only oq neYN
                    have N_526 : Row y525 N 23 (u8s dl) := rq.congr (allH KL.out)
                    have bel_526 : Below w.heap.size w y525 := below_only bel_524 oq geN bel_524.size
                    clear T_524 E_524 Y_524 rNy523 bel_524 oq
                    clear rq
                    refine ⟨⟨Y_526, trivial⟩, ?_⟩
                    refine h_take 9 (.int .i64 0) rfl 15 rfl (by kernel_rfl) (by kernel_rfl) (by kernel_rfl) (by kernel_rfl) (fun _ _ _ h => h) (fun w' _ => by kernel_rfl) ⟨Y_526, trivial⟩ ?_
                    simp only [Act.put, List.setIfInBounds_toArray, List.set_cons_zero, List.set_cons_succ]
                    refine wpAnyH_done (by kernel_rfl) ?_ _
                    go_wp2_with fail
                    go_meet
                    exact ⟨N, rfl, rfl, N_526, T_526, E_526, bel_526⟩
                  · skip
                    refine (o_value _ rfl 14 rfl (by kernel_rfl) (run_op_alloc _ rfl (u8s zh) zH) ?_)
                    have hNy521 := (new_alloc y519 (.cells (u8s zh).toArray 23)).below
                    have rNy521 : Row (y519.alloc (.cells (u8s zh).toArray 23)) y519.heap.size 23 (u8s zh) := heap_alloc_new _ _
                    have geN : w.heap.size ≤ y519.heap.size := bel_520.size
                    generalize y519.alloc (.cells (u8s zh).toArray 23) = y521 at hNy521 rNy521 ⊢
                    have neEN : E ≠ y519.heap.size := by have := E_520.lt; omega
                    have neYN : Y ≠ y519.heap.size := by have := Y_520.lt; omega
                    have tbN : B ≠ y519.heap.size := by have := T_520.lt; omega
                    have tmN : m ≠ y519.heap.size := by have := T_520.mlt; omega
                    have T_522 : TrAt y521 B m t := T_520.old hNy521
                    have E_522 : Row y521 E 23 (u8s rr) := E_520.old hNy521
                    have Y_522 : Row y521 Y 29 (dgC pp) := Y_520.old hNy521
                    have bel_522 : Below w.heap.size w y521 := below_step bel_520 bel_520.size hNy521
                    clear T_520 E_520 Y_520 bel_520 hNy521
                    generalize y519.heap.size = N at rNy521 geN neEN neYN tbN tmN ⊢
                    refine ⟨⟨Y_522, trivial⟩, ?_⟩
                    simp only [Act.put, List.setIfInBounds_toArray, List.set_cons_zero, List.set_cons_succ]
                    refine h_one (i := 3) (by kernel_rfl) (o_call rfl 99 rfl (by kernel_rfl) (run_op_call 8 _ _ rfl #[.int .i64 (p : Int), .agg (u8s digE).toArray, .agg (dgC pp).toArray] (by simp only [List.map_toArray, List.map_cons, List.map_nil]; rfl) Tryd.func8 (by kernel_rfl) (by kernel_rfl) _) (CL.out _ (HKW.out _ bel_522)) ?_)
                    rintro e y523 ⟨rfl, hB⟩
                    have T_524 : TrAt y523 B m t := T_522.old hB
                    have E_524 : Row y523 E 23 (u8s rr) := E_522.old hB
                    have Y_524 : Row y523 Y 29 (dgC pp) := Y_522.old hB
                    have N_524 : Row y523 N 23 (u8s zh) := rNy521.old hB
                    have bel_524 : Below w.heap.size w y523 := below_step bel_522 bel_522.size hB
                    clear T_522 E_522 Y_522 rNy521 bel_522 hB
                    refine ⟨_, rfl, ⟨Y_524, trivial⟩, ?_⟩
                    simp only [Act.put, List.setIfInBounds_toArray, List.set_cons_zero, List.set_cons_succ]
                    refine h_take 4 (.tuple #[.agg (u8s dl).toArray, .int .i64 0]) rfl 95 rfl (by kernel_rfl) (by kernel_rfl) (by kernel_rfl) (by kernel_rfl) (fun _ _ _ h => h) (fun w' _ => by kernel_rfl) ⟨Y_524, trivial⟩ ?_
                    simp only [Act.put, List.setIfInBounds_toArray, List.set_cons_zero, List.set_cons_succ]
                    refine h_take 5 (.agg (u8s dl).toArray) rfl 100 rfl (by kernel_rfl) (by kernel_rfl) (by kernel_rfl) (by kernel_rfl) (fun _ _ _ h => h) (fun w' _ => by kernel_rfl) ⟨Y_524, trivial⟩ ?_
                    simp only [Act.put, List.setIfInBounds_toArray, List.set_cons_zero, List.set_cons_succ]
                    refine h_take 6 (.int .i64 0) rfl 101 rfl (by kernel_rfl) (by kernel_rfl) (by kernel_rfl) (by kernel_rfl) (fun _ _ _ h => h) (fun w' _ => by kernel_rfl) ⟨Y_524, trivial⟩ ?_
                    simp only [Act.put, List.setIfInBounds_toArray, List.set_cons_zero, List.set_cons_succ]
                    refine h_one (i := 8) (by kernel_rfl) (o_skip rfl rfl (by kernel_rfl) (run_op_store _ _ _ rfl N (0) rfl (u8s dl) rfl _ _ N_524 (fitH KL.out) (u8s_one _) (szH KL.out)) ?_)
                    have rq := row_setRow N_524 (lay (u8s zh) (0) (u8s dl))
                    have oq := Only.setRow N y523 (lay (u8s zh) (0) (u8s dl)).toArray
                    generalize y523.setRow N (lay (u8s zh) (0) (u8s dl)).toArray = y525 at rq oq ⊢
                    have T_526 : TrAt y525 B m t := T_524.only oq tbN tmN
                    have E_526 : Row y525 E 23 (u8s rr) := E_524.only oq neEN
                    have Y_526 : Row y525 Y 29 (dgC pp) := Y_524.only oq neYN
                    have N_526 : Row y525 N 23 (u8s dl) := rq.congr (allH KL.out)
                    have bel_526 : Below w.heap.size w y525 := below_only bel_524 oq geN bel_524.size
                    clear T_524 E_524 Y_524 N_524 bel_524 oq
                    clear rq
                    refine ⟨⟨Y_526, trivial⟩, ?_⟩
                    refine h_take 9 (.int .i64 0) rfl 15 rfl (by kernel_rfl) (by kernel_rfl) (by kernel_rfl) (by kernel_rfl) (fun _ _ _ h => h) (fun w' _ => by kernel_rfl) ⟨Y_526, trivial⟩ ?_
                    simp only [Act.put, List.setIfInBounds_toArray, List.set_cons_zero, List.set_cons_succ]
                    refine wpAnyH_done (by kernel_rfl) ?_ _
                    go_wp2_with fail
                    go_meet
                    exact ⟨N, rfl, rfl, N_526, T_526, E_526, bel_526⟩
                · skip
                  refine (o_value _ rfl 14 rfl (by kernel_rfl) (run_op_alloc _ rfl (u8s zh) zH) ?_)
                  have hNy519 := (new_alloc yz517 (.cells (u8s zh).toArray 23)).below
                  have rNy519 : Row (yz517.alloc (.cells (u8s zh).toArray 23)) yz517.heap.size 23 (u8s zh) := heap_alloc_new _ _
                  have geN : w.heap.size ≤ yz517.heap.size := bel_518.size
                  generalize yz517.alloc (.cells (u8s zh).toArray 23) = y519 at hNy519 rNy519 ⊢
                  have neEN : E ≠ yz517.heap.size := by have := E_518.lt; omega
                  have neYN : Y ≠ yz517.heap.size := by have := Y_518.lt; omega
                  have tbN : B ≠ yz517.heap.size := by have := T_518.lt; omega
                  have tmN : m ≠ yz517.heap.size := by have := T_518.mlt; omega
                  have T_520 : TrAt y519 B m t := T_518.old hNy519
                  have E_520 : Row y519 E 23 (u8s rr) := E_518.old hNy519
                  have Y_520 : Row y519 Y 29 (dgC pp) := Y_518.old hNy519
                  have bel_520 : Below w.heap.size w y519 := below_step bel_518 bel_518.size hNy519
                  clear T_518 E_518 Y_518 bel_518 hNy519
                  generalize yz517.heap.size = N at rNy519 geN neEN neYN tbN tmN ⊢
                  refine ⟨⟨Y_520, trivial⟩, ?_⟩
                  simp only [Act.put, List.setIfInBounds_toArray, List.set_cons_zero, List.set_cons_succ]
                  refine h_one (i := 1) (by kernel_rfl) (o_call rfl 97 rfl (by kernel_rfl) (run_op_call 23 _ _ rfl #[] (by simp only [List.map_toArray, List.map_nil]) Tryd.func23 (by kernel_rfl) (by kernel_rfl) _) (CE.out _ (HKW.out _ bel_520)) ?_)
                  rintro e y521 ⟨rfl, hB⟩
                  have T_522 : TrAt y521 B m t := T_520.old hB
                  have E_522 : Row y521 E 23 (u8s rr) := E_520.old hB
                  have Y_522 : Row y521 Y 29 (dgC pp) := Y_520.old hB
                  have N_522 : Row y521 N 23 (u8s zh) := rNy519.old hB
                  have bel_522 : Below w.heap.size w y521 := below_step bel_520 bel_520.size hB
                  clear T_520 E_520 Y_520 rNy519 bel_520 hB
                  refine ⟨_, rfl, ⟨Y_522, trivial⟩, ?_⟩
                  simp only [Act.put, List.setIfInBounds_toArray, List.set_cons_zero, List.set_cons_succ]
                  refine h_one (i := 3) (by kernel_rfl) (o_call rfl 99 rfl (by kernel_rfl) (run_op_call 8 _ _ rfl #[.int .i64 (p : Int), .agg (u8s digE).toArray, .agg (dgC pp).toArray] (by simp only [List.map_toArray, List.map_cons, List.map_nil]; rfl) Tryd.func8 (by kernel_rfl) (by kernel_rfl) _) (CL.out _ (HKW.out _ bel_522)) ?_)
                  rintro e y523 ⟨rfl, hB⟩
                  have T_524 : TrAt y523 B m t := T_522.old hB
                  have E_524 : Row y523 E 23 (u8s rr) := E_522.old hB
                  have Y_524 : Row y523 Y 29 (dgC pp) := Y_522.old hB
                  have N_524 : Row y523 N 23 (u8s zh) := N_522.old hB
                  have bel_524 : Below w.heap.size w y523 := below_step bel_522 bel_522.size hB
                  clear T_522 E_522 Y_522 N_522 bel_522 hB
                  refine ⟨_, rfl, ⟨Y_524, trivial⟩, ?_⟩
                  simp only [Act.put, List.setIfInBounds_toArray, List.set_cons_zero, List.set_cons_succ]
                  refine h_take 4 (.tuple #[.agg (u8s dl).toArray, .int .i64 0]) rfl 95 rfl (by kernel_rfl) (by kernel_rfl) (by kernel_rfl) (by kernel_rfl) (fun _ _ _ h => h) (fun w' _ => by kernel_rfl) ⟨Y_524, trivial⟩ ?_
                  simp only [Act.put, List.setIfInBounds_toArray, List.set_cons_zero, List.set_cons_succ]
                  refine h_take 5 (.agg (u8s dl).toArray) rfl 100 rfl (by kernel_rfl) (by kernel_rfl) (by kernel_rfl) (by kernel_rfl) (fun _ _ _ h => h) (fun w' _ => by kernel_rfl) ⟨Y_524, trivial⟩ ?_
                  simp only [Act.put, List.setIfInBounds_toArray, List.set_cons_zero, List.set_cons_succ]
                  refine h_take 6 (.int .i64 0) rfl 101 rfl (by kernel_rfl) (by kernel_rfl) (by kernel_rfl) (by kernel_rfl) (fun _ _ _ h => h) (fun w' _ => by kernel_rfl) ⟨Y_524, trivial⟩ ?_
                  simp only [Act.put, List.setIfInBounds_toArray, List.set_cons_zero, List.set_cons_succ]
                  refine h_one (i := 8) (by kernel_rfl) (o_skip rfl rfl (by kernel_rfl) (run_op_store _ _ _ rfl N (0) rfl (u8s dl) rfl _ _ N_524 (fitH KL.out) (u8s_one _) (szH KL.out)) ?_)
                  have rq := row_setRow N_524 (lay (u8s zh) (0) (u8s dl))
                  have oq := Only.setRow N y523 (lay (u8s zh) (0) (u8s dl)).toArray
                  generalize y523.setRow N (lay (u8s zh) (0) (u8s dl)).toArray = y525 at rq oq ⊢
                  have T_526 : TrAt y525 B m t := T_524.only oq tbN tmN
                  have E_526 : Row y525 E 23 (u8s rr) := E_524.only oq neEN
                  have Y_526 : Row y525 Y 29 (dgC pp) := Y_524.only oq neYN
                  have N_526 : Row y525 N 23 (u8s dl) := rq.congr (allH KL.out)
                  have bel_526 : Below w.heap.size w y525 := below_only bel_524 oq geN bel_524.size
                  clear T_524 E_524 Y_524 N_524 bel_524 oq
                  clear rq
                  refine ⟨⟨Y_526, trivial⟩, ?_⟩
                  refine h_take 9 (.int .i64 0) rfl 15 rfl (by kernel_rfl) (by kernel_rfl) (by kernel_rfl) (by kernel_rfl) (fun _ _ _ h => h) (fun w' _ => by kernel_rfl) ⟨Y_526, trivial⟩ ?_
                  simp only [Act.put, List.setIfInBounds_toArray, List.set_cons_zero, List.set_cons_succ]
                  refine wpAnyH_done (by kernel_rfl) ?_ _
                  go_wp2_with fail
                  go_meet
                  exact ⟨N, rfl, rfl, N_526, T_526, E_526, bel_526⟩
              case rest =>
                obtain ⟨N, rfl, rfl, rN, rT, rE, belc⟩ := hcut
                clear T_516 E_516 Y_516 bel_516
                go_wp2_with (first
                  | ((with_reducible refine at_slot 103 ?_); (refine arm_want (.bool false) 103 rfl (by kernel_rfl) (cmp_neq _ _ .i64 (by kernel_rfl) _ _ rfl .i64 (0) (0) rfl rfl false (by decide) _) ?_); try simp only [Act.put, List.setIfInBounds_toArray, List.set_cons_zero, List.set_cons_succ])
                  | ((with_reducible refine at_slot 108 ?_); (refine arm_want (.agg (u8s dl).toArray) 108 rfl (by kernel_rfl) (run_op_load _ _ rfl N 0 rfl (u8s dl) ((Has.refl _).range rN) (szH KL.out)) ?_); try simp only [Act.put, List.setIfInBounds_toArray, List.set_cons_zero, List.set_cons_succ])
                  | ((with_reducible refine at_slot 109 ?_); (refine arm_want (.agg (u8s rr).toArray) 109 rfl (by kernel_rfl) (run_op_load _ _ rfl E 0 rfl (u8s rr) ((Has.refl _).range rE) (szH KR.out)) ?_); try simp only [Act.put, List.setIfInBounds_toArray, List.set_cons_zero, List.set_cons_succ])
                  | ((with_reducible refine at_slot 110 ?_); (refine arm_want (.bool false) 110 rfl (by kernel_rfl) (run_op_neqD KL.out KR.out _ _ _ rfl rfl rfl true (iff_of_true rfl HNL2.out) _) ?_); try simp only [Act.put, List.setIfInBounds_toArray, List.set_cons_zero, List.set_cons_succ]))
                try simp only [Act.put]
                go_roundw
                case rel => exact ⟨⟨p + 1, by omega, by go_num⟩, rT, rE, belc⟩
                case measure => simp [intOf]; omega
          · obtain rfl : p = 16 := by omega
            go_wp2_with fail
            go_ret
            exact ⟨rfl, bel⟩
end Go.Proofs.YtaihhbiocolhcaaDoor.Pf
