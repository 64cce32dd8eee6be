/-
  The walk of layer 15's statement TreeLeads, out of the contracts: it returns true, and changes nothing that was there. Over this seat's translation.
-/
import Derived.Test.YtpebadhknpohkaaDoorTreLaws
namespace Go.Proofs.YtpebadhknpohkaaDoor.Tr
open Go.ChangeShapes Go.WideShapes Go.ChangeAt Go.RowKit Go.Proofs.YtpebadhknpohkaaDoor.Mem Go.Proofs.YtpebadhknpohkaaDoor.Bt Go.Proofs.YtpebadhknpohkaaDoor.Wi Go.Proofs.YtpebadhknpohkaaDoor.Sha Go.Proofs.YtpebadhknpohkaaDoor.Ac Go.Proofs.YtpebadhknpohkaaDoor.Im
open Go.Proofs.YtpebadhknpohkaaDoor.Tg (bytesOf bytesOf_length bytesOf_lt bytesOf_inj Rd Rd.below Parts parts_one arm_one tagD tagD_len tagOf_any refTag_any total)
open Go.Proofs.YtpebadhknpohkaaDoor.Sl (Kind At run_op_index)
open Go.Proofs.YtpebadhknpohkaaDoor.Ep (H32 zh zh_ok Has h_len szH zH fitH allH came_at)
set_option linter.unusedVariables false
set_option linter.unusedSimpArgs false

theorem and_one {q : Nat} (h : q < 16) : IntKind.i64.wrap ((BitVec.ofNat 64 q &&& 1#64).toNat : Int) = ((q % 2 : Nat) : Int) := by
  have : ∀ q : Fin 16, IntKind.i64.wrap ((BitVec.ofNat 64 q.1 &&& 1#64).toNat : Int) = ((q.1 % 2 : Nat) : Int) := by decide
  exact this ⟨q, h⟩
theorem run_op_andI {P : Program} {o : Oper} {a : Act} (t t' : TypeId) (x y : Operand) (ho : o.op = .binOp .and t x y t') (q : Nat) (hx : a.eval x = .int .i64 (q : Int)) (hy : a.eval y = .int .i64 1) (hq : q < 16) (w : World) :
    (execOp a.eval o).run P w = .ok (.value (.int .i64 ((q % 2 : Nat) : Int))) w := by
  have e := and_one hq
  unfold execOp
  simp only [ho, hx, hy, eqGuard, binOp, Op.intArith, Op.intBits]
  simp [IntKind.bits, Op.intBits, Op.intArith]
  exact e
set_option maxRecDepth 100000 in
/-- A digest out of a path that lies in no variable. -/
theorem run_op_indexP {L : List (List Nat)} (hL : ∀ x ∈ L, H32 x) (lL : L.length = 4) {o : Oper} {a : Act} (x ix : Operand) (ho : o.op = .index 52 x ix) (hx : a.eval x = .agg (dgC L).toArray) (k : Nat) (hi : a.eval ix = .int .i64 (k : Int)) (d : List Nat) (hd : L[k]? = some d) (w : World) :
    (execOp a.eval o).run Tryd.prog w = .ok (.value (.agg (u8s d).toArray)) w := by
  have hk : k < 4 := by have := (List.getElem?_eq_some_iff.1 hd).1; omega
  have hu : Tryd.prog.underlying 52 = some (.array 4 50) := by kernel_rfl
  have c1 : Tryd.prog.cellsOf 50 = 32 := by kernel_rfl
  have hs : ∀ w : World, (sizeOf 50).run Tryd.prog w = .ok 32 w := fun w => by kernel_rfl
  have kd := hL d (List.mem_of_getElem? hd)
  have hh := dg_has L [] k d hL hd
  have hc := hh.chunk (h_len kd)
  simp only [List.nil_append, List.length_nil, Nat.zero_add] at hc
  have hp := run_part_fit (P := Tryd.prog) w (d := 2) (e := 50) (xs := dgC L) (off := k * 32) (by rw [c1, Nat.mul_comm, hc]; exact Ep.fit_hash 0 kd)
  rw [c1, Nat.mul_comm k 32, hc, row_cells (show Tryd.prog.underlying 50 = some (.array 32 5) by kernel_rfl) rfl, Nat.mul_comm 32 k] at hp
  unfold execOp
  simp [ho, hx, hi, Instr.index, asIntOf, run_underlying hu, hs, hk, hp, Result.andThen]
structure TlRel (w : World) (B m : Nat) (l : List Acta) (i : Value) (wr : World) : Prop where
  ex : ∃ k : Nat, k ≤ l.length ∧ i = .int .i64 (k : Int)
  tr : ∃ t, Good t ∧ TrAt wr B m t
  bel : Below w.heap.size w wr
structure TmRel (w : World) (B m E : Nat) (t : Tree) (rr : List Nat) (i : Value) (wr : World) : Prop where
  ex : ∃ k : Nat, k ≤ 16 ∧ i = .int .i64 (k : Int)
  tr : TrAt wr B m t
  re : Row wr E 50 (u8s rr)
  bel : Below w.heap.size w wr
structure TnRel (w : World) (B m E D : Nat) (t : Tree) (rr : List Nat) (p : Nat) (i : Value) (wr : World) : Prop where
  ex : ∃ k : Nat, k ≤ 4 ∧ i = .int .i64 (k : Int) ∧ Row wr D 50 (u8s (nodeD t k (p / 2 ^ k)))
  tr : TrAt wr B m t
  re : Row wr E 50 (u8s rr)
  bel : Below w.heap.size w wr
set_option maxHeartbeats 4000000 in
set_option maxRecDepth 100000 in
theorem treeLeads_any (l : List Acta) (P : Option Addr) (pc : Nat) (w : World) (hs : At kT w P l) (hk : w.rangeAt 0 0 (u32s ks)) :
    Calls Tryd.prog 4 #[.slice P l.length pc] w fun e w' => e = .returned (.bool true) ∧ Below w.heap.size w w' := by
  have hk1 : 0 < w.heap.size := range_lt hk (by simp [u32s, ks])
  have HKW : Hid (∀ w', Below w.heap.size w w' → w'.rangeAt 0 0 (u32s ks)) := Lib.hid fun w' hb => range_block hk (hb.block _ hk1)
  have HS := Lib.hid hs
  have CA := Lib.hid (fun w0 h => awake_any w0 h)
  have CLG := Lib.hid (fun w0 h => large_any l P pc w0 h)
  have CN := Lib.hid (fun w0 h => new_any w0 h)
  clear hs hk hk1
  go_enter Tryd.func4, Tryd.ntmps4
  go_wp2_with fail
  refine (CA.out _ (HKW.out _ (Below.refl _ _))).mono ?_
  rintro e y1 ⟨rfl, hB⟩
  have bel_2 : Below w.heap.size w y1 := hB
  clear hB
  go_wp2_with fail
  refine (CLG.out _ (HS.out.below bel_2)).mono ?_
  rintro e y3 ⟨⟨b, rfl, hb30⟩, hB⟩
  have bel_4 : Below w.heap.size w y3 := below_step bel_2 bel_2.size hB
  clear bel_2 hB
  cases b
  · have HL := Lib.hid (hb30 rfl)
    clear hb30
    go_wp2_with fail
    have szT := bel_4.size
    refine (CN.out _ (HKW.out _ bel_4)).mono ?_
    rintro e y5 ⟨⟨B, m, rfl, hTT, gBT, gmT⟩, hB⟩
    have bel_6 : Below w.heap.size w y5 := below_step bel_4 bel_4.size hB
    clear bel_4 hB
    have geB : w.heap.size ≤ B := by omega
    have gem : w.heap.size ≤ m := by omega
    clear szT gBT gmT
    go_wp2_with fail
    try simp only [Act.put]
    have h0 : TlRel w B m l (.int .i64 0) y5 := ⟨⟨0, by omega, rfl⟩, ⟨bare, good_bare, hTT⟩, bel_6⟩
    clear hTT bel_6 CN CA CLG
    go_loopw [22] (fun i wr => TlRel w B m l i wr) (fun i _ => l.length - (intOf i).toNat)
    case atStart => exact h0
    case round =>
      clear h0
      obtain ⟨⟨k, hk, rfl⟩, ⟨t, hg, hT⟩, bel⟩ := hrel
      by_cases hlt : k < l.length
      · have hk30 : k < 30 := by have := HL.out; omega
        obtain ⟨x, g, o, hx, kx, hP, hgl, hrx⟩ := HS.out.get hlt
        subst hP
        have RX := Lib.hid (range_block hrx (bel.block g hgl))
        have ik : (k : Int) < (l.length : Int) := by omega
        have KX := Lib.hid kx
        have SX := Lib.hid (sz_act x); have FX := Lib.hid (fitT x); have OX := Lib.hid (acta_one x); have LX := Lib.hid (allT x)
        clear hrx kx hx
        go_wp2_with (first
          | ((with_reducible refine at_slot 24 ?_); (refine arm_want (.pointer (some ⟨g, o + k * 5, none⟩)) 24 rfl (by kernel_rfl) (run_op_index fT _ _ rfl g o _ _ rfl .i64 _ rfl k rfl hlt _) ?_))
          | ((with_reducible refine at_slot 25 ?_); (refine arm_load (o := ⟨some 25, _, _, _, _, _⟩) rfl _ _ rfl g (o + k * 5) rfl (acta x) (RX.out) SX.out ?_))
          | ((with_reducible refine at_slot 5 ?_); (refine arm_alloc (o := ⟨some 5, _, _, _, _, _⟩) rfl _ rfl (acta zt) z_act ?_); intro X v301a Xe hXa nX)
          | ((with_reducible refine arm_store (o := ⟨none, _, _, _, _, _⟩) rfl _ _ _ rfl X 0 rfl (acta x) rfl _ _ hXa FX.out OX.out SX.out ?_); intro v301 hXb oX sX)
          | ((with_reducible refine at_slot 27 ?_); (refine arm_load (o := ⟨some 27, _, _, _, _, _⟩) rfl _ _ rfl X 0 rfl (acta x) ((Has.refl _).range (hXb.congr LX.out)) SX.out ?_)))
        have lX : wr.heap.size ≤ X := by have := Xe.out; omega
        have bX : Below wr.heap.size wr v301 := below_only nX.below oX lX nX.below.size
        have rrX : Row v301 X 38 (acta x) := hXb.congr LX.out
        have geX : w.heap.size ≤ X := Nat.le_trans bel.size lX
        clear hXa hXb nX oX sX Xe lX
        have T_302 : TrAt v301 B m (t) := hT.old bX
        have bel_302 : Below w.heap.size w v301 := below_step bel bel.size bX
        clear hT bel bX
        refine (do_any B m t x _ T_302 KX.out).mono ?_
        rintro e y303 ⟨rfl, hT, hO⟩
        have T_304 : TrAt y303 B m (doT t x) := hT
        have X_304 : Row y303 X 38 (acta x) := rrX.only hO (Ne.symm (T_302.map.row rrX))
        have bel_304 : Below w.heap.size w y303 := below_only bel_302 hO gem bel_302.size
        clear T_302 rrX bel_302 hO
        go_wp2_with fail
        try simp only [Act.put]
        go_roundw
        case rel => exact ⟨⟨k + 1, by omega, by go_num⟩, ⟨_, good_do hg KX.out, T_304⟩, bel_304⟩
        case measure => simp [intOf]; omega
      · obtain rfl : k = l.length := by omega
        have HG := Lib.hid hg
        have CR : Hid (∀ w0, TrAt w0 B m t → w0.rangeAt 0 0 (u32s ks) → Calls Tryd.prog 19 #[.pointer (some ⟨B, 0, none⟩)] w0 fun e w' => e = .returned (.agg (u8s (rootD t)).toArray) ∧ Below w0.heap.size w0 w') := Lib.hid fun w0 h0 h => root_any B m t w0 h0 HG.out h
        have KR := Lib.hid (root_ok t)
        obtain ⟨rr, hrr⟩ : ∃ rr, rr = rootD t := ⟨_, rfl⟩
        have HRR := Lib.hid hrr
        rw [← hrr] at CR KR
        clear hg hrr
        go_wp2_with fail
        refine (CR.out _ hT (HKW.out _ bel)).mono ?_
        rintro e y401 ⟨rfl, hB⟩
        have T_402 : TrAt y401 B m (t) := hT.old hB
        have bel_402 : Below w.heap.size w y401 := below_step bel bel.size hB
        clear hT bel hB
        go_wp2_with (first
          | ((with_reducible refine at_slot 6 ?_); (refine arm_alloc (o := ⟨some 6, _, _, _, _, _⟩) rfl _ rfl (u8s zh) zH ?_); intro E v403a Ee hEa nE)
          | ((with_reducible refine arm_store (o := ⟨none, _, _, _, _, _⟩) rfl _ _ _ rfl E 0 rfl (u8s rr) rfl _ _ hEa (fitH KR.out) (u8s_one _) (szH KR.out) ?_); intro v403 hEb oE sE))
        have lE : y401.heap.size ≤ E := by have := Ee.out; omega
        have bE : Below y401.heap.size y401 v403 := below_only nE.below oE lE nE.below.size
        have rrE : Row v403 E 50 (u8s rr) := hEb.congr (allH KR.out)
        have geE : w.heap.size ≤ E := Nat.le_trans bel_402.size lE
        clear hEa hEb nE oE sE Ee lE
        have T_404 : TrAt v403 B m (t) := T_402.old bE
        have bel_404 : Below w.heap.size w v403 := below_step bel_402 bel_402.size bE
        clear T_402 bel_402 bE
        try simp only [Act.put]
        have h0 : TmRel w B m E t rr (.int .i64 0) v403 := ⟨⟨0, by omega, rfl⟩, T_404, rrE, bel_404⟩
        clear T_404 rrE bel_404 hlt hk CR
        go_loopw [32] (fun i wr => TmRel w B m E t rr i wr) (fun i _ => 16 - (intOf i).toNat)
        case atStart => exact h0
        case round =>
          clear h0
          obtain ⟨⟨p, hp, rfl⟩, hT, hE, bel⟩ := hrel
          by_cases hlt : p < 16
          · have ik : (p : Int) < 16 := by omega
            have HP : Hid (Is64 (p : Int)) := Lib.hid (by simp [Is64, Lit.wf, IntKind.min, IntKind.max, IntKind.signed, IntKind.bits]; omega)
            have CG : Hid (∀ w0, TrAt w0 B m t → Calls Tryd.prog 15 #[.pointer (some ⟨B, 0, none⟩), .int .i64 (p : Int)] w0 fun e w' => e = .returned (.tuple #[.agg (acs ((t p).getD za)).toArray, .bool (t p).isSome]) ∧ Below w0.heap.size w0 w') := Lib.hid fun w0 h0 => (get_any B m t _ w0 h0 HP.out).mono fun e w' h => ⟨by have h1 := h.ret; rw [atI_nat] at h1; exact h1, h.bel⟩
            have CM : Hid (∀ w0, w0.rangeAt 0 0 (u32s ks) → Calls Tryd.prog 21 #[] w0 fun e w' => e = .returned (.agg (u8s digE).toArray) ∧ Below w0.heap.size w0 w') := Lib.hid fun w0 h => anone_any w0 h
            have CP : Hid (∀ w0, TrAt w0 B m t → w0.rangeAt 0 0 (u32s ks) → Calls Tryd.prog 17 #[.pointer (some ⟨B, 0, none⟩), .int .i64 (p : Int)] w0 fun e w' => e = .returned (.tuple #[.agg (dgC (pathD t p)).toArray, .int .i64 0]) ∧ Below w0.heap.size w0 w') := Lib.hid fun w0 h0 h => (path_any B m t _ w0 h0 HG.out h).mono fun e w' h => ⟨by
              have h1 := h.ret
              rw [show pathI t (p : Int) = pathD t p by unfold pathI; rw [if_pos (by omega), Int.toNat_natCast], show pathE (p : Int) = 0 from if_pos (by omega)] at h1
              exact h1, h.bel⟩
            have KE0 := Lib.hid digE_ok
            have PO := Lib.hid (path_ok t p)
            have KP := Lib.hid (sz_path (path_ok t p) rfl); have PF := Lib.hid (fitP (path_ok t p) rfl); have PA := Lib.hid (allP (path_ok t p) rfl)
            have HPG : Hid (∀ k, k < 4 → (pathD t p)[k]? = some (besD t p k)) := Lib.hid fun k hk => by
              obtain rfl | rfl | rfl | rfl : k = 0 ∨ k = 1 ∨ k = 2 ∨ k = 3 := by omega
              all_goals rfl
            have HPL : Hid ((pathD t p).length = 4) := Lib.hid rfl
            have HP16 := Lib.hid hlt
            generalize pathD t p = pp at CP PO KP PF PA HPG HPL
            go_wp2_with fail
            refine (CM.out _ (HKW.out _ bel)).mono ?_
            rintro e y501 ⟨rfl, hB⟩
            have T_502 : TrAt y501 B m (t) := hT.old hB
            have E_502 : Row y501 E 50 (u8s rr) := hE.old hB
            have bel_502 : Below w.heap.size w y501 := below_step bel bel.size hB
            clear hT hE bel hB
            have eltE := E_502.lt
            go_wp2_with (first
              | ((with_reducible refine at_slot 8 ?_); (refine arm_alloc (o := ⟨some 8, _, _, _, _, _⟩) rfl _ rfl (u8s zh) zH ?_); intro D v503a De hDa nD)
              | ((with_reducible refine arm_store (o := ⟨none, _, _, _, _, _⟩) rfl _ _ _ rfl D 0 rfl (u8s digE) rfl _ _ hDa (fitH KE0.out) (u8s_one _) (szH KE0.out) ?_); intro v503 hDb oD sD))
            have lD : y501.heap.size ≤ D := by have := De.out; omega
            have bD : Below y501.heap.size y501 v503 := below_only nD.below oD lD nD.below.size
            have rrD : Row v503 D 50 (u8s digE) := hDb.congr (allH KE0.out)
            have geD : w.heap.size ≤ D := Nat.le_trans bel_502.size lD
            have neED : E ≠ D := by have := E_502.lt; omega
            clear hDa hDb nD oD sD De lD
            have T_504 : TrAt v503 B m (t) := T_502.old bD
            have E_504 : Row v503 E 50 (u8s rr) := E_502.old bD
            have bel_504 : Below w.heap.size w v503 := below_step bel_502 bel_502.size bD
            clear T_502 E_502 bel_502 bD
            refine (CG.out _ T_504).mono ?_
            rintro e y505 ⟨rfl, hB⟩
            have T_506 : TrAt y505 B m (t) := T_504.old hB
            have E_506 : Row y505 E 50 (u8s rr) := E_504.old hB
            have D_506 : Row y505 D 50 (u8s digE) := rrD.old hB
            have bel_506 : Below w.heap.size w y505 := below_step bel_504 bel_504.size hB
            clear T_504 E_504 rrD bel_504 hB
            cases htp : t p with
            | none =>
              have HLF : Hid (digE = nodeD t 0 p) := Lib.hid (by unfold nodeD leafD; rw [htp])
              clear htp
              go_wp2_with (first
                | ((with_reducible refine at_slot 9 ?_); (refine arm_alloc (o := ⟨some 9, _, _, _, _, _⟩) rfl _ rfl (acs za) z_acc ?_); intro A v507a Ae hAa nA)
                | ((with_reducible refine arm_store (o := ⟨none, _, _, _, _, _⟩) rfl _ _ _ rfl A 0 rfl (acs za) rfl _ _ hAa (fitA za) (acs_one _) (sz_acc za) ?_); intro v507 hAb oA sA))
              have lA : y505.heap.size ≤ A := by have := Ae.out; omega
              have bA : Below y505.heap.size y505 v507 := below_only nA.below oA lA nA.below.size
              have rrA : Row v507 A 36 (acs za) := hAb.congr (allA za)
              have geA : w.heap.size ≤ A := Nat.le_trans bel_506.size lA
              clear hAa hAb nA oA sA Ae lA
              have T_508 : TrAt v507 B m (t) := T_506.old bA
              have E_508 : Row v507 E 50 (u8s rr) := E_506.old bA
              have D_508 : Row v507 D 50 (u8s digE) := D_506.old bA
              have bel_508 : Below w.heap.size w v507 := below_step bel_506 bel_506.size bA
              clear T_506 E_506 D_506 bel_506 bA
              clear rrA
              refine (CP.out _ T_508 (HKW.out _ bel_508)).mono ?_
              rintro e y509 ⟨rfl, hB⟩
              have T_510 : TrAt y509 B m (t) := T_508.old hB
              have E_510 : Row y509 E 50 (u8s rr) := E_508.old hB
              have D_510 : Row y509 D 50 (u8s digE) := D_508.old hB
              have bel_510 : Below w.heap.size w y509 := below_step bel_508 bel_508.size hB
              clear T_508 E_508 D_508 bel_508 hB
              go_wp2_with (first
                | ((with_reducible refine at_slot 11 ?_); (refine arm_alloc (o := ⟨some 11, _, _, _, _, _⟩) rfl _ rfl (dgC z4) z_path ?_); intro PP v511a PPe hPPa nPP)
                | ((with_reducible refine arm_store (o := ⟨none, _, _, _, _, _⟩) rfl _ _ _ rfl PP 0 rfl (dgC pp) rfl _ _ hPPa PF.out (dgC_ones _) KP.out ?_); intro v511 hPPb oPP sPP)
                | ((with_reducible refine at_slot 55 ?_); (refine arm_want (.bool false) 55 rfl (by kernel_rfl) (cmp_neq _ _ .i64 (by kernel_rfl) _ _ rfl .i64 (0) (0) rfl rfl false (by decide) _) ?_))
                | ((with_reducible refine at_slot 56 ?_); (refine arm_load (o := ⟨some 56, _, _, _, _, _⟩) rfl _ _ rfl PP 0 rfl (dgC pp) ((Has.refl _).range (hPPb.congr PA.out)) KP.out ?_)))
              have lPP : y509.heap.size ≤ PP := by have := PPe.out; omega
              have bPP : Below y509.heap.size y509 v511 := below_only nPP.below oPP lPP nPP.below.size
              have rrPP : Row v511 PP 52 (dgC pp) := hPPb.congr PA.out
              have gePP : w.heap.size ≤ PP := Nat.le_trans bel_510.size lPP
              clear hPPa hPPb nPP oPP sPP PPe lPP
              have T_512 : TrAt v511 B m (t) := T_510.old bPP
              have E_512 : Row v511 E 50 (u8s rr) := E_510.old bPP
              have D_512 : Row v511 D 50 (u8s digE) := D_510.old bPP
              have bel_512 : Below w.heap.size w v511 := below_step bel_510 bel_510.size bPP
              clear T_510 E_510 D_510 bel_510 bPP
              try simp only [Act.put]
              have h0 : TnRel w B m E D t rr p (.int .i64 0) v511 := ⟨⟨0, by omega, rfl, by have := D_512; rw [HLF.out] at this; rw [Nat.pow_zero, Nat.div_one]; exact this⟩, T_512, E_512, bel_512⟩
              clear T_512 E_512 D_512 rrPP bel_512 CP CM CG
              go_loopw [57] (fun i wr => TnRel w B m E D t rr p i wr) (fun i _ => 4 - (intOf i).toNat)
              case atStart => exact h0
              case round =>
                clear h0
                obtain ⟨⟨j, hj, rfl, hD⟩, hT, hE, bel⟩ := hrel
                by_cases hlt : j < 4
                · have ij : (j : Int) < 4 := by omega
                  have hx16 : p / 2 ^ j < 16 := Nat.lt_of_le_of_lt (Nat.div_le_self _ _) HP16.out
                  have HX16 := Lib.hid hx16
                  have HPQ : Hid (p ≤ 9223372036854775807) := Lib.hid (by have := HP16.out; omega)
                  have HJ64 : Hid (j < 64) := Lib.hid (by omega)
                  have HST := Lib.hid (node_step t p j)
                  have HBJ := Lib.hid (HPG.out j hlt)
                  have KB := Lib.hid (bes_ok t p j); have KN := Lib.hid (node_ok t j (p / 2 ^ j)); have KN1 := Lib.hid (node_ok t (j + 1) (p / 2 ^ (j + 1)))
                  have HW : Hid (IntKind.i64.wrap ((j : Int) + 1) = ((j + 1 : Nat) : Int)) := Lib.hid (by rw [IntKind.wrap_i64]; omega)
                  by_cases he : p / 2 ^ j % 2 = 0
                  · have HST2 : Hid (nodeD t (j + 1) (p / 2 ^ (j + 1)) = joinD (j + 1) (nodeD t j (p / 2 ^ j)) (besD t p j)) := Lib.hid (by rw [HST.out, if_pos he])
                    have HM : Hid (decide (((p / 2 ^ j % 2 : Nat) : Int) = 0) = true) := Lib.hid (decide_eq_true (by omega))
                    have CJ := Lib.hid (fun w0 h => join_any (j + 1) (nodeD t j (p / 2 ^ j)) (besD t p j) w0 (by omega) KN.out KB.out h)
                    clear HST he hx16 KN
                    rw [← HST2.out] at CJ
                    have KND := Lib.hid (node_ok t j (p / 2 ^ j))
                    obtain ⟨d1, hd1⟩ : ∃ d1, d1 = nodeD t (j + 1) (p / 2 ^ (j + 1)) := ⟨_, rfl⟩
                    have HD1 := Lib.hid hd1
                    rw [← hd1] at CJ KN1 HST2
                    clear hd1
                    generalize besD t p j = bd at CJ HBJ KB HST2
                    have HND : Hid True := Lib.hid trivial
                    generalize hnd : nodeD t j (p / 2 ^ j) = nd at CJ KND HST2 hD
                    clear hnd HND
                    skip
                    go_wp2_with (first
                      | ((with_reducible refine at_slot 60 ?_); (refine arm_want (.agg (u8s bd).toArray) 60 rfl (by kernel_rfl) (run_op_indexP PO.out HPL.out _ _ rfl rfl j rfl bd HBJ.out _) ?_))
                      | ((with_reducible refine at_slot 14 ?_); (refine arm_alloc (o := ⟨some 14, _, _, _, _, _⟩) rfl _ rfl (u8s zh) zH ?_); intro G v901a Ge hGa nG)
                      | ((with_reducible refine arm_store (o := ⟨none, _, _, _, _, _⟩) rfl _ _ _ rfl G 0 rfl (u8s bd) rfl _ _ hGa (fitH KB.out) (u8s_one _) (szH KB.out) ?_); intro v901 hGb oG sG)
                      | ((with_reducible refine at_slot 63 ?_); (refine arm_want (.int .i64 ((p / 2 ^ j : Nat) : Int)) 63 rfl (by kernel_rfl) (run_op_shrI _ _ _ _ rfl p j rfl rfl HPQ.out HJ64.out _) ?_))
                      | ((with_reducible refine at_slot 64 ?_); (refine arm_want (.int .i64 ((p / 2 ^ j % 2 : Nat) : Int)) 64 rfl (by kernel_rfl) (run_op_andI _ _ _ _ rfl (p / 2 ^ j) rfl rfl HX16.out _) ?_))
                      | ((with_reducible refine at_slot 65 ?_); (refine arm_want (.bool true) 65 rfl (by kernel_rfl) (cmp_eql _ _ .i64 (by kernel_rfl) _ _ rfl .i64 _ _ rfl rfl true HM.out _) ?_))
                      | ((with_reducible refine at_slot 67 ?_); (refine arm_want (.int .i64 ((j + 1 : Nat) : Int)) 67 rfl (by kernel_rfl) (run_op_addK _ _ _ _ rfl _ _ _ rfl rfl HW.out _) ?_))
                      | ((with_reducible refine at_slot 68 ?_); (refine arm_load (o := ⟨some 68, _, _, _, _, _⟩) rfl _ _ rfl D 0 rfl (u8s nd) ((Has.refl _).range ((hD.old nG.below).only oG (by have := Ge.out; have := hD.lt; omega))) (szH KND.out) ?_))
                      | ((with_reducible refine at_slot 69 ?_); (refine arm_load (o := ⟨some 69, _, _, _, _, _⟩) rfl _ _ rfl G 0 rfl (u8s bd) ((Has.refl _).range (hGb.congr (allH KB.out))) (szH KB.out) ?_)))
                    have lG : wr.heap.size ≤ G := by have := Ge.out; omega
                    have bG : Below wr.heap.size wr v901 := below_only nG.below oG lG nG.below.size
                    have rrG : Row v901 G 50 (u8s bd) := hGb.congr (allH KB.out)
                    have geG : w.heap.size ≤ G := Nat.le_trans bel.size lG
                    clear hGa hGb nG oG sG Ge lG
                    have T_902 : TrAt v901 B m (t) := hT.old bG
                    have E_902 : Row v901 E 50 (u8s rr) := hE.old bG
                    have D_902 : Row v901 D 50 (u8s nd) := hD.old bG
                    have bel_902 : Below w.heap.size w v901 := below_step bel bel.size bG
                    clear hT hE hD bel bG
                    refine (CJ.out _ (HKW.out _ bel_902)).mono ?_
                    rintro e y903 ⟨rfl, hB⟩
                    have T_904 : TrAt y903 B m (t) := T_902.old hB
                    have E_904 : Row y903 E 50 (u8s rr) := E_902.old hB
                    have D_904 : Row y903 D 50 (u8s nd) := D_902.old hB
                    have G_904 : Row y903 G 50 (u8s bd) := rrG.old hB
                    have bel_904 : Below w.heap.size w y903 := below_step bel_902 bel_902.size hB
                    clear T_902 E_902 D_902 rrG bel_902 hB
                    have hTD : B ≠ D := fun e => by subst e; exact tree_ne_dig T_904 D_904
                    have hMD : m ≠ D := T_904.map.row D_904
                    go_wp2_with (first
                      | ((with_reducible refine arm_store (o := ⟨none, _, _, _, _, _⟩) rfl _ _ _ rfl D 0 rfl (u8s d1) rfl _ _ (D_904) (by rw [h_len KN1.out, h_len KND.out]; omega) (u8s_one _) (szH KN1.out) ?_); intro y9 hy9 oy9 sy9))
                    try simp only [Act.put]
                    go_roundw
                    case rel => exact ⟨⟨j + 1, by omega, by go_num, by have h9 := hy9.congr (lay_all _ _ (by rw [h_len KN1.out, h_len KND.out])); exact HD1.out ▸ h9⟩, T_904.only oy9 hTD hMD, E_904.only oy9 neED, below_only bel_904 oy9 geD bel_904.size⟩
                    case measure => simp [intOf]; omega
                  · have HST2 : Hid (nodeD t (j + 1) (p / 2 ^ (j + 1)) = joinD (j + 1) (besD t p j) (nodeD t j (p / 2 ^ j))) := Lib.hid (by rw [HST.out, if_neg he])
                    have HM : Hid (decide (((p / 2 ^ j % 2 : Nat) : Int) = 0) = false) := Lib.hid (decide_eq_false (by omega))
                    have CJ := Lib.hid (fun w0 h => join_any (j + 1) (besD t p j) (nodeD t j (p / 2 ^ j)) w0 (by omega) KB.out KN.out h)
                    clear HST he hx16 KN
                    rw [← HST2.out] at CJ
                    have KND := Lib.hid (node_ok t j (p / 2 ^ j))
                    obtain ⟨d1, hd1⟩ : ∃ d1, d1 = nodeD t (j + 1) (p / 2 ^ (j + 1)) := ⟨_, rfl⟩
                    have HD1 := Lib.hid hd1
                    rw [← hd1] at CJ KN1 HST2
                    clear hd1
                    generalize besD t p j = bd at CJ HBJ KB HST2
                    have HND : Hid True := Lib.hid trivial
                    generalize hnd : nodeD t j (p / 2 ^ j) = nd at CJ KND HST2 hD
                    clear hnd HND
                    skip
                    go_wp2_with (first
                      | ((with_reducible refine at_slot 60 ?_); (refine arm_want (.agg (u8s bd).toArray) 60 rfl (by kernel_rfl) (run_op_indexP PO.out HPL.out _ _ rfl rfl j rfl bd HBJ.out _) ?_))
                      | ((with_reducible refine at_slot 14 ?_); (refine arm_alloc (o := ⟨some 14, _, _, _, _, _⟩) rfl _ rfl (u8s zh) zH ?_); intro G v901a Ge hGa nG)
                      | ((with_reducible refine arm_store (o := ⟨none, _, _, _, _, _⟩) rfl _ _ _ rfl G 0 rfl (u8s bd) rfl _ _ hGa (fitH KB.out) (u8s_one _) (szH KB.out) ?_); intro v901 hGb oG sG)
                      | ((with_reducible refine at_slot 63 ?_); (refine arm_want (.int .i64 ((p / 2 ^ j : Nat) : Int)) 63 rfl (by kernel_rfl) (run_op_shrI _ _ _ _ rfl p j rfl rfl HPQ.out HJ64.out _) ?_))
                      | ((with_reducible refine at_slot 64 ?_); (refine arm_want (.int .i64 ((p / 2 ^ j % 2 : Nat) : Int)) 64 rfl (by kernel_rfl) (run_op_andI _ _ _ _ rfl (p / 2 ^ j) rfl rfl HX16.out _) ?_))
                      | ((with_reducible refine at_slot 65 ?_); (refine arm_want (.bool false) 65 rfl (by kernel_rfl) (cmp_eql _ _ .i64 (by kernel_rfl) _ _ rfl .i64 _ _ rfl rfl false HM.out _) ?_))
                      | ((with_reducible refine at_slot 72 ?_); (refine arm_want (.int .i64 ((j + 1 : Nat) : Int)) 72 rfl (by kernel_rfl) (run_op_addK _ _ _ _ rfl _ _ _ rfl rfl HW.out _) ?_))
                      | ((with_reducible refine at_slot 74 ?_); (refine arm_load (o := ⟨some 74, _, _, _, _, _⟩) rfl _ _ rfl D 0 rfl (u8s nd) ((Has.refl _).range ((hD.old nG.below).only oG (by have := Ge.out; have := hD.lt; omega))) (szH KND.out) ?_))
                      | ((with_reducible refine at_slot 73 ?_); (refine arm_load (o := ⟨some 73, _, _, _, _, _⟩) rfl _ _ rfl G 0 rfl (u8s bd) ((Has.refl _).range (hGb.congr (allH KB.out))) (szH KB.out) ?_)))
                    have lG : wr.heap.size ≤ G := by have := Ge.out; omega
                    have bG : Below wr.heap.size wr v901 := below_only nG.below oG lG nG.below.size
                    have rrG : Row v901 G 50 (u8s bd) := hGb.congr (allH KB.out)
                    have geG : w.heap.size ≤ G := Nat.le_trans bel.size lG
                    clear hGa hGb nG oG sG Ge lG
                    have T_902 : TrAt v901 B m (t) := hT.old bG
                    have E_902 : Row v901 E 50 (u8s rr) := hE.old bG
                    have D_902 : Row v901 D 50 (u8s nd) := hD.old bG
                    have bel_902 : Below w.heap.size w v901 := below_step bel bel.size bG
                    clear hT hE hD bel bG
                    refine (CJ.out _ (HKW.out _ bel_902)).mono ?_
                    rintro e y903 ⟨rfl, hB⟩
                    have T_904 : TrAt y903 B m (t) := T_902.old hB
                    have E_904 : Row y903 E 50 (u8s rr) := E_902.old hB
                    have D_904 : Row y903 D 50 (u8s nd) := D_902.old hB
                    have G_904 : Row y903 G 50 (u8s bd) := rrG.old hB
                    have bel_904 : Below w.heap.size w y903 := below_step bel_902 bel_902.size hB
                    clear T_902 E_902 D_902 rrG bel_902 hB
                    have hTD : B ≠ D := fun e => by subst e; exact tree_ne_dig T_904 D_904
                    have hMD : m ≠ D := T_904.map.row D_904
                    go_wp2_with (first
                      | ((with_reducible refine arm_store (o := ⟨none, _, _, _, _, _⟩) rfl _ _ _ rfl D 0 rfl (u8s d1) rfl _ _ (D_904) (by rw [h_len KN1.out, h_len KND.out]; omega) (u8s_one _) (szH KN1.out) ?_); intro y9 hy9 oy9 sy9))
                    try simp only [Act.put]
                    go_roundw
                    case rel => exact ⟨⟨j + 1, by omega, by go_num, by have h9 := hy9.congr (lay_all _ _ (by rw [h_len KN1.out, h_len KND.out])); exact HD1.out ▸ h9⟩, T_904.only oy9 hTD hMD, E_904.only oy9 neED, below_only bel_904 oy9 geD bel_904.size⟩
                    case measure => simp [intOf]; omega
                · obtain rfl : j = 4 := by omega
                  rw [node_top t HP16.out, ← HRR.out] at hD
                  have KR2 := Lib.hid KR.out; have hE0 := hE
                  go_wp2_with (first
                    | ((with_reducible refine at_slot 77 ?_); (refine arm_load (o := ⟨some 77, _, _, _, _, _⟩) rfl _ _ rfl D 0 rfl (u8s rr) ((Has.refl _).range hD) (szH KR2.out) ?_))
                    | ((with_reducible refine at_slot 78 ?_); (refine arm_load (o := ⟨some 78, _, _, _, _, _⟩) rfl _ _ rfl E 0 rfl (u8s rr) ((Has.refl _).range hE) (szH KR2.out) ?_))
                    | ((with_reducible refine at_slot 79 ?_); (refine arm_want (.bool false) 79 rfl (by kernel_rfl) (run_op_neqD KR2.out KR2.out _ _ _ rfl rfl rfl true ⟨fun _ => rfl, fun _ => rfl⟩ _) ?_)))
                  try simp only [Act.put]
                  go_roundw
                  case rel => exact ⟨⟨p + 1, by omega, by go_num⟩, hT, hE0, bel⟩
                  case measure => simp [intOf]; omega
            | some z =>
              have hz := HG.out p z htp
              have HLF : Hid (digA z = nodeD t 0 p) := Lib.hid (by unfold nodeD leafD; rw [htp])
              have CH : Hid (∀ w0, w0.rangeAt 0 0 (u32s ks) → Calls Tryd.prog 22 #[.agg (acs z).toArray] w0 fun e w' => e = .returned (.tuple #[.agg (u8s (digA z)).toArray, .int .i64 0]) ∧ Below w0.heap.size w0 w') := Lib.hid fun w0 h => (ahash_any z w0 hz.2.1 h).mono fun e w' h => ⟨by
                have h3 := h.ret
                rw [show ansH z = digA z from if_pos hz.2.2, show ansE z = 0 from if_pos hz.2.2] at h3
                exact h3, h.bel⟩
              have KZ := Lib.hid (sz_acc z); have OZ := Lib.hid (acs_one z); have LZ := Lib.hid (allA z); have FZ := Lib.hid (fitA z)
              have KDZ := Lib.hid (digA_ok z)
              clear htp hz
              generalize digA z = dz at CH HLF KDZ
              go_wp2_with (first
                | ((with_reducible refine at_slot 9 ?_); (refine arm_alloc (o := ⟨some 9, _, _, _, _, _⟩) rfl _ rfl (acs za) z_acc ?_); intro A v507a Ae hAa nA)
                | ((with_reducible refine arm_store (o := ⟨none, _, _, _, _, _⟩) rfl _ _ _ rfl A 0 rfl (acs z) rfl _ _ hAa FZ.out OZ.out KZ.out ?_); intro v507 hAb oA sA)
                | ((with_reducible refine at_slot 44 ?_); (refine arm_load (o := ⟨some 44, _, _, _, _, _⟩) rfl _ _ rfl A 0 rfl (acs z) ((Has.refl _).range (hAb.congr LZ.out)) KZ.out ?_)))
              have lA : y505.heap.size ≤ A := by have := Ae.out; omega
              have bA : Below y505.heap.size y505 v507 := below_only nA.below oA lA nA.below.size
              have rrA : Row v507 A 36 (acs z) := hAb.congr LZ.out
              have geA : w.heap.size ≤ A := Nat.le_trans bel_506.size lA
              clear hAa hAb nA oA sA Ae lA
              have T_508 : TrAt v507 B m (t) := T_506.old bA
              have E_508 : Row v507 E 50 (u8s rr) := E_506.old bA
              have D_508 : Row v507 D 50 (u8s digE) := D_506.old bA
              have bel_508 : Below w.heap.size w v507 := below_step bel_506 bel_506.size bA
              clear T_506 E_506 D_506 bel_506 bA
              clear rrA
              refine (CH.out _ (HKW.out _ bel_508)).mono ?_
              rintro e y509 ⟨rfl, hB⟩
              have T_510 : TrAt y509 B m (t) := T_508.old hB
              have E_510 : Row y509 E 50 (u8s rr) := E_508.old hB
              have D_510 : Row y509 D 50 (u8s digE) := D_508.old hB
              have bel_510 : Below w.heap.size w y509 := below_step bel_508 bel_508.size hB
              clear T_508 E_508 D_508 bel_508 hB
              have hTD : B ≠ D := fun e => by subst e; exact tree_ne_dig T_510 D_510
              have hMD : m ≠ D := T_510.map.row D_510
              go_wp2_with (first
                | ((with_reducible refine arm_store (o := ⟨none, _, _, _, _, _⟩) rfl _ _ _ rfl D 0 rfl (u8s dz) rfl _ _ (D_510) (by rw [h_len KE0.out, h_len KDZ.out]; omega) (u8s_one _) (szH KDZ.out) ?_); intro y8 hy8 oy8 sy8))
              clear sy8
              have T_511 : TrAt y8 B m (t) := T_510.only oy8 hTD hMD
              have E_511 : Row y8 E 50 (u8s rr) := E_510.only oy8 neED
              have D_511 : Row y8 D 50 (u8s dz) := hy8.congr (lay_all _ _ (by rw [h_len KDZ.out, h_len KE0.out]))
              have bel_511 : Below w.heap.size w y8 := below_only bel_510 oy8 geD bel_510.size
              clear T_510 E_510 D_510 bel_510 oy8
              clear hy8 hTD hMD
              refine (CP.out _ T_511 (HKW.out _ bel_511)).mono ?_
              rintro e y512 ⟨rfl, hB⟩
              have T_513 : TrAt y512 B m (t) := T_511.old hB
              have E_513 : Row y512 E 50 (u8s rr) := E_511.old hB
              have D_513 : Row y512 D 50 (u8s dz) := D_511.old hB
              have bel_513 : Below w.heap.size w y512 := below_step bel_511 bel_511.size hB
              clear T_511 E_511 D_511 bel_511 hB
              go_wp2_with (first
                | ((with_reducible refine at_slot 11 ?_); (refine arm_alloc (o := ⟨some 11, _, _, _, _, _⟩) rfl _ rfl (dgC z4) z_path ?_); intro PP v514a PPe hPPa nPP)
                | ((with_reducible refine arm_store (o := ⟨none, _, _, _, _, _⟩) rfl _ _ _ rfl PP 0 rfl (dgC pp) rfl _ _ hPPa PF.out (dgC_ones _) KP.out ?_); intro v514 hPPb oPP sPP)
                | ((with_reducible refine at_slot 55 ?_); (refine arm_want (.bool false) 55 rfl (by kernel_rfl) (cmp_neq _ _ .i64 (by kernel_rfl) _ _ rfl .i64 (0) (0) rfl rfl false (by decide) _) ?_))
                | ((with_reducible refine at_slot 56 ?_); (refine arm_load (o := ⟨some 56, _, _, _, _, _⟩) rfl _ _ rfl PP 0 rfl (dgC pp) ((Has.refl _).range (hPPb.congr PA.out)) KP.out ?_)))
              have lPP : y512.heap.size ≤ PP := by have := PPe.out; omega
              have bPP : Below y512.heap.size y512 v514 := below_only nPP.below oPP lPP nPP.below.size
              have rrPP : Row v514 PP 52 (dgC pp) := hPPb.congr PA.out
              have gePP : w.heap.size ≤ PP := Nat.le_trans bel_513.size lPP
              clear hPPa hPPb nPP oPP sPP PPe lPP
              have T_515 : TrAt v514 B m (t) := T_513.old bPP
              have E_515 : Row v514 E 50 (u8s rr) := E_513.old bPP
              have D_515 : Row v514 D 50 (u8s dz) := D_513.old bPP
              have bel_515 : Below w.heap.size w v514 := below_step bel_513 bel_513.size bPP
              clear T_513 E_513 D_513 bel_513 bPP
              try simp only [Act.put]
              have h0 : TnRel w B m E D t rr p (.int .i64 0) v514 := ⟨⟨0, by omega, rfl, by have := D_515; rw [HLF.out] at this; rw [Nat.pow_zero, Nat.div_one]; exact this⟩, T_515, E_515, bel_515⟩
              clear T_515 E_515 D_515 rrPP bel_515 CP CM CG
              go_loopw [57] (fun i wr => TnRel w B m E D t rr p i wr) (fun i _ => 4 - (intOf i).toNat)
              case atStart => exact h0
              case round =>
                clear h0
                obtain ⟨⟨j, hj, rfl, hD⟩, hT, hE, bel⟩ := hrel
                by_cases hlt : j < 4
                · have ij : (j : Int) < 4 := by omega
                  have hx16 : p / 2 ^ j < 16 := Nat.lt_of_le_of_lt (Nat.div_le_self _ _) HP16.out
                  have HX16 := Lib.hid hx16
                  have HPQ : Hid (p ≤ 9223372036854775807) := Lib.hid (by have := HP16.out; omega)
                  have HJ64 : Hid (j < 64) := Lib.hid (by omega)
                  have HST := Lib.hid (node_step t p j)
                  have HBJ := Lib.hid (HPG.out j hlt)
                  have KB := Lib.hid (bes_ok t p j); have KN := Lib.hid (node_ok t j (p / 2 ^ j)); have KN1 := Lib.hid (node_ok t (j + 1) (p / 2 ^ (j + 1)))
                  have HW : Hid (IntKind.i64.wrap ((j : Int) + 1) = ((j + 1 : Nat) : Int)) := Lib.hid (by rw [IntKind.wrap_i64]; omega)
                  by_cases he : p / 2 ^ j % 2 = 0
                  · have HST2 : Hid (nodeD t (j + 1) (p / 2 ^ (j + 1)) = joinD (j + 1) (nodeD t j (p / 2 ^ j)) (besD t p j)) := Lib.hid (by rw [HST.out, if_pos he])
                    have HM : Hid (decide (((p / 2 ^ j % 2 : Nat) : Int) = 0) = true) := Lib.hid (decide_eq_true (by omega))
                    have CJ := Lib.hid (fun w0 h => join_any (j + 1) (nodeD t j (p / 2 ^ j)) (besD t p j) w0 (by omega) KN.out KB.out h)
                    clear HST he hx16 KN
                    rw [← HST2.out] at CJ
                    have KND := Lib.hid (node_ok t j (p / 2 ^ j))
                    obtain ⟨d1, hd1⟩ : ∃ d1, d1 = nodeD t (j + 1) (p / 2 ^ (j + 1)) := ⟨_, rfl⟩
                    have HD1 := Lib.hid hd1
                    rw [← hd1] at CJ KN1 HST2
                    clear hd1
                    generalize besD t p j = bd at CJ HBJ KB HST2
                    have HND : Hid True := Lib.hid trivial
                    generalize hnd : nodeD t j (p / 2 ^ j) = nd at CJ KND HST2 hD
                    clear hnd HND
                    skip
                    go_wp2_with (first
                      | ((with_reducible refine at_slot 60 ?_); (refine arm_want (.agg (u8s bd).toArray) 60 rfl (by kernel_rfl) (run_op_indexP PO.out HPL.out _ _ rfl rfl j rfl bd HBJ.out _) ?_))
                      | ((with_reducible refine at_slot 14 ?_); (refine arm_alloc (o := ⟨some 14, _, _, _, _, _⟩) rfl _ rfl (u8s zh) zH ?_); intro G v901a Ge hGa nG)
                      | ((with_reducible refine arm_store (o := ⟨none, _, _, _, _, _⟩) rfl _ _ _ rfl G 0 rfl (u8s bd) rfl _ _ hGa (fitH KB.out) (u8s_one _) (szH KB.out) ?_); intro v901 hGb oG sG)
                      | ((with_reducible refine at_slot 63 ?_); (refine arm_want (.int .i64 ((p / 2 ^ j : Nat) : Int)) 63 rfl (by kernel_rfl) (run_op_shrI _ _ _ _ rfl p j rfl rfl HPQ.out HJ64.out _) ?_))
                      | ((with_reducible refine at_slot 64 ?_); (refine arm_want (.int .i64 ((p / 2 ^ j % 2 : Nat) : Int)) 64 rfl (by kernel_rfl) (run_op_andI _ _ _ _ rfl (p / 2 ^ j) rfl rfl HX16.out _) ?_))
                      | ((with_reducible refine at_slot 65 ?_); (refine arm_want (.bool true) 65 rfl (by kernel_rfl) (cmp_eql _ _ .i64 (by kernel_rfl) _ _ rfl .i64 _ _ rfl rfl true HM.out _) ?_))
                      | ((with_reducible refine at_slot 67 ?_); (refine arm_want (.int .i64 ((j + 1 : Nat) : Int)) 67 rfl (by kernel_rfl) (run_op_addK _ _ _ _ rfl _ _ _ rfl rfl HW.out _) ?_))
                      | ((with_reducible refine at_slot 68 ?_); (refine arm_load (o := ⟨some 68, _, _, _, _, _⟩) rfl _ _ rfl D 0 rfl (u8s nd) ((Has.refl _).range ((hD.old nG.below).only oG (by have := Ge.out; have := hD.lt; omega))) (szH KND.out) ?_))
                      | ((with_reducible refine at_slot 69 ?_); (refine arm_load (o := ⟨some 69, _, _, _, _, _⟩) rfl _ _ rfl G 0 rfl (u8s bd) ((Has.refl _).range (hGb.congr (allH KB.out))) (szH KB.out) ?_)))
                    have lG : wr.heap.size ≤ G := by have := Ge.out; omega
                    have bG : Below wr.heap.size wr v901 := below_only nG.below oG lG nG.below.size
                    have rrG : Row v901 G 50 (u8s bd) := hGb.congr (allH KB.out)
                    have geG : w.heap.size ≤ G := Nat.le_trans bel.size lG
                    clear hGa hGb nG oG sG Ge lG
                    have T_902 : TrAt v901 B m (t) := hT.old bG
                    have E_902 : Row v901 E 50 (u8s rr) := hE.old bG
                    have D_902 : Row v901 D 50 (u8s nd) := hD.old bG
                    have bel_902 : Below w.heap.size w v901 := below_step bel bel.size bG
                    clear hT hE hD bel bG
                    refine (CJ.out _ (HKW.out _ bel_902)).mono ?_
                    rintro e y903 ⟨rfl, hB⟩
                    have T_904 : TrAt y903 B m (t) := T_902.old hB
                    have E_904 : Row y903 E 50 (u8s rr) := E_902.old hB
                    have D_904 : Row y903 D 50 (u8s nd) := D_902.old hB
                    have G_904 : Row y903 G 50 (u8s bd) := rrG.old hB
                    have bel_904 : Below w.heap.size w y903 := below_step bel_902 bel_902.size hB
                    clear T_902 E_902 D_902 rrG bel_902 hB
                    have hTD : B ≠ D := fun e => by subst e; exact tree_ne_dig T_904 D_904
                    have hMD : m ≠ D := T_904.map.row D_904
                    go_wp2_with (first
                      | ((with_reducible refine arm_store (o := ⟨none, _, _, _, _, _⟩) rfl _ _ _ rfl D 0 rfl (u8s d1) rfl _ _ (D_904) (by rw [h_len KN1.out, h_len KND.out]; omega) (u8s_one _) (szH KN1.out) ?_); intro y9 hy9 oy9 sy9))
                    try simp only [Act.put]
                    go_roundw
                    case rel => exact ⟨⟨j + 1, by omega, by go_num, by have h9 := hy9.congr (lay_all _ _ (by rw [h_len KN1.out, h_len KND.out])); exact HD1.out ▸ h9⟩, T_904.only oy9 hTD hMD, E_904.only oy9 neED, below_only bel_904 oy9 geD bel_904.size⟩
                    case measure => simp [intOf]; omega
                  · have HST2 : Hid (nodeD t (j + 1) (p / 2 ^ (j + 1)) = joinD (j + 1) (besD t p j) (nodeD t j (p / 2 ^ j))) := Lib.hid (by rw [HST.out, if_neg he])
                    have HM : Hid (decide (((p / 2 ^ j % 2 : Nat) : Int) = 0) = false) := Lib.hid (decide_eq_false (by omega))
                    have CJ := Lib.hid (fun w0 h => join_any (j + 1) (besD t p j) (nodeD t j (p / 2 ^ j)) w0 (by omega) KB.out KN.out h)
                    clear HST he hx16 KN
                    rw [← HST2.out] at CJ
                    have KND := Lib.hid (node_ok t j (p / 2 ^ j))
                    obtain ⟨d1, hd1⟩ : ∃ d1, d1 = nodeD t (j + 1) (p / 2 ^ (j + 1)) := ⟨_, rfl⟩
                    have HD1 := Lib.hid hd1
                    rw [← hd1] at CJ KN1 HST2
                    clear hd1
                    generalize besD t p j = bd at CJ HBJ KB HST2
                    have HND : Hid True := Lib.hid trivial
                    generalize hnd : nodeD t j (p / 2 ^ j) = nd at CJ KND HST2 hD
                    clear hnd HND
                    skip
                    go_wp2_with (first
                      | ((with_reducible refine at_slot 60 ?_); (refine arm_want (.agg (u8s bd).toArray) 60 rfl (by kernel_rfl) (run_op_indexP PO.out HPL.out _ _ rfl rfl j rfl bd HBJ.out _) ?_))
                      | ((with_reducible refine at_slot 14 ?_); (refine arm_alloc (o := ⟨some 14, _, _, _, _, _⟩) rfl _ rfl (u8s zh) zH ?_); intro G v901a Ge hGa nG)
                      | ((with_reducible refine arm_store (o := ⟨none, _, _, _, _, _⟩) rfl _ _ _ rfl G 0 rfl (u8s bd) rfl _ _ hGa (fitH KB.out) (u8s_one _) (szH KB.out) ?_); intro v901 hGb oG sG)
                      | ((with_reducible refine at_slot 63 ?_); (refine arm_want (.int .i64 ((p / 2 ^ j : Nat) : Int)) 63 rfl (by kernel_rfl) (run_op_shrI _ _ _ _ rfl p j rfl rfl HPQ.out HJ64.out _) ?_))
                      | ((with_reducible refine at_slot 64 ?_); (refine arm_want (.int .i64 ((p / 2 ^ j % 2 : Nat) : Int)) 64 rfl (by kernel_rfl) (run_op_andI _ _ _ _ rfl (p / 2 ^ j) rfl rfl HX16.out _) ?_))
                      | ((with_reducible refine at_slot 65 ?_); (refine arm_want (.bool false) 65 rfl (by kernel_rfl) (cmp_eql _ _ .i64 (by kernel_rfl) _ _ rfl .i64 _ _ rfl rfl false HM.out _) ?_))
                      | ((with_reducible refine at_slot 72 ?_); (refine arm_want (.int .i64 ((j + 1 : Nat) : Int)) 72 rfl (by kernel_rfl) (run_op_addK _ _ _ _ rfl _ _ _ rfl rfl HW.out _) ?_))
                      | ((with_reducible refine at_slot 74 ?_); (refine arm_load (o := ⟨some 74, _, _, _, _, _⟩) rfl _ _ rfl D 0 rfl (u8s nd) ((Has.refl _).range ((hD.old nG.below).only oG (by have := Ge.out; have := hD.lt; omega))) (szH KND.out) ?_))
                      | ((with_reducible refine at_slot 73 ?_); (refine arm_load (o := ⟨some 73, _, _, _, _, _⟩) rfl _ _ rfl G 0 rfl (u8s bd) ((Has.refl _).range (hGb.congr (allH KB.out))) (szH KB.out) ?_)))
                    have lG : wr.heap.size ≤ G := by have := Ge.out; omega
                    have bG : Below wr.heap.size wr v901 := below_only nG.below oG lG nG.below.size
                    have rrG : Row v901 G 50 (u8s bd) := hGb.congr (allH KB.out)
                    have geG : w.heap.size ≤ G := Nat.le_trans bel.size lG
                    clear hGa hGb nG oG sG Ge lG
                    have T_902 : TrAt v901 B m (t) := hT.old bG
                    have E_902 : Row v901 E 50 (u8s rr) := hE.old bG
                    have D_902 : Row v901 D 50 (u8s nd) := hD.old bG
                    have bel_902 : Below w.heap.size w v901 := below_step bel bel.size bG
                    clear hT hE hD bel bG
                    refine (CJ.out _ (HKW.out _ bel_902)).mono ?_
                    rintro e y903 ⟨rfl, hB⟩
                    have T_904 : TrAt y903 B m (t) := T_902.old hB
                    have E_904 : Row y903 E 50 (u8s rr) := E_902.old hB
                    have D_904 : Row y903 D 50 (u8s nd) := D_902.old hB
                    have G_904 : Row y903 G 50 (u8s bd) := rrG.old hB
                    have bel_904 : Below w.heap.size w y903 := below_step bel_902 bel_902.size hB
                    clear T_902 E_902 D_902 rrG bel_902 hB
                    have hTD : B ≠ D := fun e => by subst e; exact tree_ne_dig T_904 D_904
                    have hMD : m ≠ D := T_904.map.row D_904
                    go_wp2_with (first
                      | ((with_reducible refine arm_store (o := ⟨none, _, _, _, _, _⟩) rfl _ _ _ rfl D 0 rfl (u8s d1) rfl _ _ (D_904) (by rw [h_len KN1.out, h_len KND.out]; omega) (u8s_one _) (szH KN1.out) ?_); intro y9 hy9 oy9 sy9))
                    try simp only [Act.put]
                    go_roundw
                    case rel => exact ⟨⟨j + 1, by omega, by go_num, by have h9 := hy9.congr (lay_all _ _ (by rw [h_len KN1.out, h_len KND.out])); exact HD1.out ▸ h9⟩, T_904.only oy9 hTD hMD, E_904.only oy9 neED, below_only bel_904 oy9 geD bel_904.size⟩
                    case measure => simp [intOf]; omega
                · obtain rfl : j = 4 := by omega
                  rw [node_top t HP16.out, ← HRR.out] at hD
                  have KR2 := Lib.hid KR.out; have hE0 := hE
                  go_wp2_with (first
                    | ((with_reducible refine at_slot 77 ?_); (refine arm_load (o := ⟨some 77, _, _, _, _, _⟩) rfl _ _ rfl D 0 rfl (u8s rr) ((Has.refl _).range hD) (szH KR2.out) ?_))
                    | ((with_reducible refine at_slot 78 ?_); (refine arm_load (o := ⟨some 78, _, _, _, _, _⟩) rfl _ _ rfl E 0 rfl (u8s rr) ((Has.refl _).range hE) (szH KR2.out) ?_))
                    | ((with_reducible refine at_slot 79 ?_); (refine arm_want (.bool false) 79 rfl (by kernel_rfl) (run_op_neqD KR2.out KR2.out _ _ _ rfl rfl rfl true ⟨fun _ => rfl, fun _ => rfl⟩ _) ?_)))
                  try simp only [Act.put]
                  go_roundw
                  case rel => exact ⟨⟨p + 1, by omega, by go_num⟩, hT, hE0, bel⟩
                  case measure => simp [intOf]; omega
          · obtain rfl : p = 16 := by omega
            go_wp2_with fail
            go_ret
            exact ⟨rfl, bel⟩
  · skip
    go_wp2_with fail
    go_ret
    exact ⟨rfl, bel_4⟩
end Go.Proofs.YtpebadhknpohkaaDoor.Tr
