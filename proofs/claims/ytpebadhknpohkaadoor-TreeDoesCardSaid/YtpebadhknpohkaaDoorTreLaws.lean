/-
  The walk of layer 15's statement TreeOrder, out of the contracts: it returns true, and changes nothing that was there. Over this seat's translation.
-/
import Derived.Test.YtpebadhknpohkaaDoorTreAwake
import Derived.Test.YtpebadhknpohkaaDoorTreDo
namespace Go.Proofs.YtpebadhknpohkaaDoor.Tr
open Go.ChangeShapes Go.WideShapes Go.ChangeAt Go.RowKit Go.Proofs.YtpebadhknpohkaaDoor.Mem Go.Proofs.YtpebadhknpohkaaDoor.Bt Go.Proofs.YtpebadhknpohkaaDoor.Wi Go.Proofs.YtpebadhknpohkaaDoor.Sha Go.Proofs.YtpebadhknpohkaaDoor.Ac Go.Proofs.YtpebadhknpohkaaDoor.Im
open Go.Proofs.YtpebadhknpohkaaDoor.Tg (bytesOf bytesOf_length bytesOf_lt bytesOf_inj Rd Rd.below Parts parts_one arm_one tagD tagD_len tagOf_any refTag_any total)
open Go.Proofs.YtpebadhknpohkaaDoor.Sl (Kind At run_op_index)
open Go.Proofs.YtpebadhknpohkaaDoor.Ep (H32 zh zh_ok Has h_len szH zH fitH allH came_at)
set_option linter.unusedVariables false
set_option linter.unusedSimpArgs false

/-- What is set from behind, behind so many rounds; how many places that are. -/
def upT (t : Tree) (k : Nat) : Tree := fun j => if 16 ≤ j + k then t j else none
def hiC (t : Tree) : Nat → Nat
  | 0 => 0
  | k + 1 => hiC t k + if (t (15 - k)).isSome then 1 else 0
theorem hi_all (t : Tree) : hiC t 16 = cntM t 16 := by
  simp only [hiC, cntM, Nat.reduceSub]
  ac_rfl
theorem hi_le (t : Tree) : ∀ k, hiC t k ≤ k
  | 0 => Nat.le_refl _
  | k + 1 => by unfold hiC; have := hi_le t k; split <;> omega
theorem up_zero {t : Tree} (h : Good t) : bare = upT t 0 := by
  funext j
  unfold upT
  split
  · cases e : t j with
    | none => rfl
    | some a => have := (h j a e).1; omega
  · rfl
theorem up_all (t : Tree) : upT t 16 = t := by
  funext j
  unfold upT
  rw [if_pos (by omega)]
theorem up_none {t : Tree} {k : Nat} (hk : k < 16) (h : t (15 - k) = none) : upT t (k + 1) = upT t k := by
  funext j
  unfold upT
  by_cases e : j = 15 - k
  · subst e
    rw [if_pos (by omega), if_neg (by omega), h]
  · by_cases g : 16 ≤ j + k
    · rw [if_pos (by omega), if_pos g]
    · rw [if_neg (by omega), if_neg g]
theorem up_some {t : Tree} {k : Nat} {a : Acct} (hk : k < 16) (hr : NRt a.nm) (h : t (15 - k) = some a) : setR (upT t k) ((15 - k : Nat) : Int) a = upT t (k + 1) := by
  unfold setR
  rw [if_pos ⟨by omega, hr⟩, Int.toNat_natCast]
  funext j
  unfold setT upT
  by_cases e : j = 15 - k
  · subst e
    rw [if_pos rfl, if_pos (by omega), h]
  · rw [if_neg e]
    by_cases g : 16 ≤ j + k
    · rw [if_pos g, if_pos (by omega)]
    · rw [if_neg g, if_neg (by omega)]
theorem good_up {t : Tree} (h : Good t) (k : Nat) : Good (upT t k) := by
  intro j a e
  unfold upT at e
  split at e
  · exact h j a e
  · cases e
structure ToRel (w : World) (B1 m1 B2 m2 : Nat) (l : List Acta) (i : Value) (wr : World) : Prop where
  ex : ∃ k : Nat, k ≤ l.length ∧ i = .int .i64 (k : Int)
  tr : ∃ t, Good t ∧ TrAt wr B1 m1 t
  u : TrAt wr B2 m2 bare
  bel : Below w.heap.size w wr
structure TpRel (w : World) (B1 m1 B2 m2 : Nat) (t : Tree) (i n : Value) (wr : World) : Prop where
  ex : ∃ k : Nat, k ≤ 16 ∧ i = .int .i64 (k : Int) ∧ n = .int .i64 (hiC t k : Int) ∧ TrAt wr B2 m2 (upT t k)
  tr : TrAt wr B1 m1 t
  bel : Below w.heap.size w wr
set_option maxHeartbeats 4000000 in
set_option maxRecDepth 100000 in
theorem treeOrder_any (l : List Acta) (P : Option Addr) (pc : Nat) (w : World) (hs : At kT w P l) (hk : w.rangeAt 0 0 (u32s ks)) :
    Calls Tryd.prog 5 #[.slice P l.length pc] w fun e w' => e = .returned (.bool true) ∧ Below w.heap.size w w' := by
  have hk1 : 0 < w.heap.size := range_lt hk (by simp [u32s, ks])
  have HKW : Hid (∀ w', Below w.heap.size w w' → w'.rangeAt 0 0 (u32s ks)) := Lib.hid fun w' hb => range_block hk (hb.block _ hk1)
  have HS := Lib.hid hs
  have CA := Lib.hid (fun w0 h => awake_any w0 h)
  have CLG := Lib.hid (fun w0 h => large_any l P pc w0 h)
  have CN := Lib.hid (fun w0 h => new_any w0 h)
  clear hs hk hk1
  go_enter Tryd.func5, Tryd.ntmps5
  go_wp2_with fail
  refine (CA.out _ (HKW.out _ (Below.refl _ _))).mono ?_
  rintro e y1 ⟨rfl, hB⟩
  have bel_2 : Below w.heap.size w y1 := hB
  clear hB
  go_wp2_with fail
  refine (CLG.out _ (HS.out.below bel_2)).mono ?_
  rintro e y3 ⟨⟨b, rfl, hb30⟩, hB⟩
  have bel_4 : Below w.heap.size w y3 := below_step bel_2 bel_2.size hB
  clear bel_2 hB
  cases b
  · have HL := Lib.hid (hb30 rfl)
    clear hb30
    go_wp2_with fail
    have szT := bel_4.size
    refine (CN.out _ (HKW.out _ bel_4)).mono ?_
    rintro e y5 ⟨⟨B1, m1, rfl, hTT, gBT, gmT⟩, hB⟩
    have bel_6 : Below w.heap.size w y5 := below_step bel_4 bel_4.size hB
    clear bel_4 hB
    have geB1 : w.heap.size ≤ B1 := by omega
    have gem1 : w.heap.size ≤ m1 := by omega
    clear szT gBT gmT
    go_wp2_with fail
    have szU := bel_6.size
    have ltTU := hTT.lt; have mlTU := hTT.mlt
    refine (CN.out _ (HKW.out _ bel_6)).mono ?_
    rintro e y7 ⟨⟨B2, m2, rfl, hTU, gBU, gmU⟩, hB⟩
    have T_8 : TrAt y7 B1 m1 (bare) := hTT.old hB
    have bel_8 : Below w.heap.size w y7 := below_step bel_6 bel_6.size hB
    clear hTT bel_6 hB
    have geB2 : w.heap.size ≤ B2 := by omega
    have gem2 : w.heap.size ≤ m2 := by omega
    have hB1m2 : B1 ≠ m2 := by omega
    have hm1m2 : m1 ≠ m2 := by omega
    have hB2m1 : B2 ≠ m1 := by omega
    have hm2m1 : m2 ≠ m1 := by omega
    clear ltTU mlTU
    clear szU gBU gmU
    go_wp2_with fail
    try simp only [Act.put]
    have h0 : ToRel w B1 m1 B2 m2 l (.int .i64 0) y7 := ⟨⟨0, by omega, rfl⟩, ⟨bare, good_bare, T_8⟩, hTU, bel_8⟩
    clear T_8 hTU bel_8 CN CA CLG
    go_loopw [20] (fun i wr => ToRel w B1 m1 B2 m2 l i wr) (fun i _ => l.length - (intOf i).toNat)
    case atStart => exact h0
    case round =>
      clear h0
      obtain ⟨⟨k, hk, rfl⟩, ⟨t, hg, hT⟩, hU, bel⟩ := hrel
      by_cases hlt : k < l.length
      · have hk30 : k < 30 := by have := HL.out; omega
        obtain ⟨x, g, o, hx, kx, hP, hgl, hrx⟩ := HS.out.get hlt
        subst hP
        have RX := Lib.hid (range_block hrx (bel.block g hgl))
        have ik : (k : Int) < (l.length : Int) := by omega
        have KX := Lib.hid kx
        have SX := Lib.hid (sz_act x); have FX := Lib.hid (fitT x); have OX := Lib.hid (acta_one x); have LX := Lib.hid (allT x)
        clear hrx kx hx
        go_wp2_with (first
          | ((with_reducible refine at_slot 22 ?_); (refine arm_want (.pointer (some ⟨g, o + k * 5, none⟩)) 22 rfl (by kernel_rfl) (run_op_index fT _ _ rfl g o _ _ rfl .i64 _ rfl k rfl hlt _) ?_))
          | ((with_reducible refine at_slot 23 ?_); (refine arm_load (o := ⟨some 23, _, _, _, _, _⟩) rfl _ _ rfl g (o + k * 5) rfl (acta x) (RX.out) SX.out ?_))
          | ((with_reducible refine at_slot 6 ?_); (refine arm_alloc (o := ⟨some 6, _, _, _, _, _⟩) rfl _ rfl (acta zt) z_act ?_); intro X v301a Xe hXa nX)
          | ((with_reducible refine arm_store (o := ⟨none, _, _, _, _, _⟩) rfl _ _ _ rfl X 0 rfl (acta x) rfl _ _ hXa FX.out OX.out SX.out ?_); intro v301 hXb oX sX)
          | ((with_reducible refine at_slot 25 ?_); (refine arm_load (o := ⟨some 25, _, _, _, _, _⟩) rfl _ _ rfl X 0 rfl (acta x) ((Has.refl _).range (hXb.congr LX.out)) SX.out ?_)))
        have lX : wr.heap.size ≤ X := by have := Xe.out; omega
        have bX : Below wr.heap.size wr v301 := below_only nX.below oX lX nX.below.size
        have rrX : Row v301 X 38 (acta x) := hXb.congr LX.out
        have geX : w.heap.size ≤ X := Nat.le_trans bel.size lX
        clear hXa hXb nX oX sX Xe lX
        have T_302 : TrAt v301 B1 m1 (t) := hT.old bX
        have U_302 : TrAt v301 B2 m2 (bare) := hU.old bX
        have bel_302 : Below w.heap.size w v301 := below_step bel bel.size bX
        clear hT hU bel bX
        refine (do_any B1 m1 t x _ T_302 KX.out).mono ?_
        rintro e y303 ⟨rfl, hT, hO⟩
        have T_304 : TrAt y303 B1 m1 (doT t x) := hT
        have U_304 : TrAt y303 B2 m2 (bare) := U_302.only hO hB2m1 hm2m1
        have X_304 : Row y303 X 38 (acta x) := rrX.only hO (Ne.symm (T_302.map.row rrX))
        have bel_304 : Below w.heap.size w y303 := below_only bel_302 hO gem1 bel_302.size
        clear T_302 U_302 rrX bel_302 hO
        go_wp2_with fail
        try simp only [Act.put]
        go_roundw
        case rel => exact ⟨⟨k + 1, by omega, by go_num⟩, ⟨_, good_do hg KX.out, T_304⟩, U_304, bel_304⟩
        case measure => simp [intOf]; omega
      · obtain rfl : k = l.length := by omega
        go_wp2_with fail
        try simp only [Act.put]
        rw [up_zero hg] at hU
        have h0 : TpRel w B1 m1 B2 m2 t (.int .i64 0) (.int .i64 0) wr := ⟨⟨0, by omega, rfl, rfl, hU⟩, hT, bel⟩
        have HG := Lib.hid hg
        clear hU hT bel hg hlt hk
        go_loopw [28, 7] (fun i n wr => TpRel w B1 m1 B2 m2 t i n wr) (fun i _ _ => 16 - (intOf i).toNat)
        case atStart => exact h0
        case round =>
          clear h0
          obtain ⟨⟨k, hk, rfl, rfl, hU⟩, hT, bel⟩ := hrel
          by_cases hlt : k < 16
          · have ik : (k : Int) < 16 := by omega
            have HW : Hid (IntKind.i64.wrap (15 - (k : Int)) = ((15 - k : Nat) : Int)) := Lib.hid (by rw [IntKind.wrap_i64]; omega)
            have HP : Hid (Is64 ((15 - k : Nat) : Int)) := Lib.hid (by simp [Is64, Lit.wf, IntKind.min, IntKind.max, IntKind.signed, IntKind.bits]; omega)
            have hle := hi_le t k
            have HNX : Hid (hiC t (k + 1) = hiC t k + if (t (15 - k)).isSome then 1 else 0) := Lib.hid rfl
            have CG : Hid (∀ w0, TrAt w0 B1 m1 t → Calls Tryd.prog 15 #[.pointer (some ⟨B1, 0, none⟩), .int .i64 ((15 - k : Nat) : Int)] w0 fun e w' => e = .returned (.tuple #[.agg (acs ((t (15 - k)).getD za)).toArray, .bool (t (15 - k)).isSome]) ∧ Below w0.heap.size w0 w') := Lib.hid fun w0 h0 => (get_any B1 m1 t _ w0 h0 HP.out).mono fun e w' h => ⟨by have h1 := h.ret; rw [atI_nat] at h1; exact h1, h.bel⟩
            have HHI : Hid (IntKind.i64.wrap ((hiC t k : Int) + 1) = ((hiC t k + 1 : Nat) : Int)) := Lib.hid (by rw [IntKind.wrap_i64]; omega)
            generalize hiC t k = n at hle HNX HHI ⊢
            have KZ := Lib.hid (sz_acc za); have OZ := Lib.hid (acs_one za); have LZ := Lib.hid (allA za); have FZ := Lib.hid (fitA za)
            have BZ := Lib.hid built_za
            cases hti : t (15 - k) with
            | none =>
              rw [hti] at CG HNX
              have HUP : Hid (upT t (k + 1) = upT t k) := Lib.hid (up_none hlt hti)
              clear hti
              obtain ⟨m, hm⟩ : ∃ m : Nat, m = 15 - k := ⟨_, rfl⟩
              rw [← hm] at HW CG
              clear hm HP
              go_wp2_with (first
                | ((with_reducible refine at_slot 32 ?_); (refine arm_want (.int .i64 (m : Int)) 32 rfl (by kernel_rfl) (run_op_sub64 _ _ _ _ rfl _ _ _ rfl rfl HW.out _) ?_)))
              refine (CG.out _ hT).mono ?_
              rintro e y501 ⟨rfl, hB⟩
              have T_502 : TrAt y501 B1 m1 (t) := hT.old hB
              have U_502 : TrAt y501 B2 m2 (upT t k) := hU.old hB
              have bel_502 : Below w.heap.size w y501 := below_step bel bel.size hB
              clear hT hU bel hB
              go_wp2_with (first
                | ((with_reducible refine at_slot 10 ?_); (refine arm_alloc (o := ⟨some 10, _, _, _, _, _⟩) rfl _ rfl (acs za) z_acc ?_); intro A v503a Ae hAa nA)
                | ((with_reducible refine arm_store (o := ⟨none, _, _, _, _, _⟩) rfl _ _ _ rfl A 0 rfl (acs za) rfl _ _ hAa FZ.out OZ.out KZ.out ?_); intro v503 hAb oA sA)
                | ((with_reducible refine at_slot 47 ?_); (refine arm_load (o := ⟨some 47, _, _, _, _, _⟩) rfl _ _ rfl A 0 rfl (acs za) ((Has.refl _).range (hAb.congr LZ.out)) KZ.out ?_))
                | ((with_reducible refine at_slot 48 ?_); (refine arm_build (o := ⟨some 48, _, _, _, _, _⟩) rfl _ _ rfl (acs za) (by simp only [List.map_toArray, List.map_nil]; exact BZ.out) ?_))
                | ((with_reducible refine at_slot 49 ?_); (refine arm_want (.bool false) 49 rfl (by kernel_rfl) (run_op_neqA _ _ _ rfl za za rfl rfl true ⟨fun _ => rfl, fun _ => rfl⟩ _) ?_)))
              have lA : y501.heap.size ≤ A := by have := Ae.out; omega
              have bA : Below y501.heap.size y501 v503 := below_only nA.below oA lA nA.below.size
              have rrA : Row v503 A 36 (acs za) := hAb.congr LZ.out
              have geA : w.heap.size ≤ A := Nat.le_trans bel_502.size lA
              clear hAa hAb nA oA sA Ae lA
              have T_504 : TrAt v503 B1 m1 (t) := T_502.old bA
              have U_504 : TrAt v503 B2 m2 (upT t k) := U_502.old bA
              have bel_504 : Below w.heap.size w v503 := below_step bel_502 bel_502.size bA
              clear T_502 U_502 bel_502 bA
              try simp only [Act.put]
              go_roundw
              case rel => exact ⟨⟨k + 1, by omega, by go_num, by rw [HNX.out]; rfl, U_504.congr HUP.out.symm⟩, T_504, bel_504⟩
              case measure => simp [intOf]; omega
            | some z =>
              rw [hti] at CG HNX
              have hz := HG.out _ _ hti
              have HUP : Hid (setR (upT t k) ((15 - k : Nat) : Int) z = upT t (k + 1)) := Lib.hid (up_some hlt hz.2.2 hti)
              have CS : Hid (∀ w0, TrAt w0 B2 m2 (upT t k) → Calls Tryd.prog 24 #[.pointer (some ⟨B2, 0, none⟩), .int .i64 ((15 - k : Nat) : Int), .agg (acs z).toArray] w0 fun e w' => e = .returned (.int .i64 0) ∧ TrAt w' B2 m2 (upT t (k + 1)) ∧ Only m2 w0 w') := Lib.hid fun w0 h0 => (set_any B2 m2 (upT t k) _ z w0 h0 HP.out).mono fun e w' h => ⟨by
                have h1 := h.ret
                rw [show setE ((15 - k : Nat) : Int) z = 0 from if_pos ⟨by omega, hz.2.2⟩] at h1
                exact h1, h.tr.congr HUP.out, h.ow⟩
              have KX := Lib.hid (sz_acc z); have OX := Lib.hid (acs_one z); have LX := Lib.hid (allA z); have FX := Lib.hid (fitA z)
              clear hti hz
              obtain ⟨m, hm⟩ : ∃ m : Nat, m = 15 - k := ⟨_, rfl⟩
              rw [← hm] at HW CG CS HUP
              clear hm HP
              go_wp2_with (first
                | ((with_reducible refine at_slot 32 ?_); (refine arm_want (.int .i64 (m : Int)) 32 rfl (by kernel_rfl) (run_op_sub64 _ _ _ _ rfl _ _ _ rfl rfl HW.out _) ?_)))
              refine (CG.out _ hT).mono ?_
              rintro e y501 ⟨rfl, hB⟩
              have T_502 : TrAt y501 B1 m1 (t) := hT.old hB
              have U_502 : TrAt y501 B2 m2 (upT t k) := hU.old hB
              have bel_502 : Below w.heap.size w y501 := below_step bel bel.size hB
              clear hT hU bel hB
              go_wp2_with (first
                | ((with_reducible refine at_slot 10 ?_); (refine arm_alloc (o := ⟨some 10, _, _, _, _, _⟩) rfl _ rfl (acs za) z_acc ?_); intro A v503a Ae hAa nA)
                | ((with_reducible refine arm_store (o := ⟨none, _, _, _, _, _⟩) rfl _ _ _ rfl A 0 rfl (acs z) rfl _ _ hAa FX.out OX.out KX.out ?_); intro v503 hAb oA sA)
                | ((with_reducible refine at_slot 41 ?_); (refine arm_want (.int .i64 ((n + 1 : Nat) : Int)) 41 rfl (by kernel_rfl) (run_op_addK _ _ _ _ rfl _ _ _ rfl rfl HHI.out _) ?_))
                | ((with_reducible refine at_slot 44 ?_); (refine arm_load (o := ⟨some 44, _, _, _, _, _⟩) rfl _ _ rfl A 0 rfl (acs z) ((Has.refl _).range (hAb.congr LX.out)) KX.out ?_)))
              have lA : y501.heap.size ≤ A := by have := Ae.out; omega
              have bA : Below y501.heap.size y501 v503 := below_only nA.below oA lA nA.below.size
              have rrA : Row v503 A 36 (acs z) := hAb.congr LX.out
              have geA : w.heap.size ≤ A := Nat.le_trans bel_502.size lA
              clear hAa hAb nA oA sA Ae lA
              have T_504 : TrAt v503 B1 m1 (t) := T_502.old bA
              have U_504 : TrAt v503 B2 m2 (upT t k) := U_502.old bA
              have bel_504 : Below w.heap.size w v503 := below_step bel_502 bel_502.size bA
              clear T_502 U_502 bel_502 bA
              refine (CS.out _ U_504).mono ?_
              rintro e y505 ⟨rfl, hU2, hO⟩
              have T_506 : TrAt y505 B1 m1 (t) := T_504.only hO hB1m2 hm1m2
              have U_506 : TrAt y505 B2 m2 (upT t (k + 1)) := hU2
              have A_506 : Row y505 A 36 (acs z) := rrA.only hO (Ne.symm (U_504.map.row rrA))
              have bel_506 : Below w.heap.size w y505 := below_only bel_504 hO gem2 bel_504.size
              clear T_504 U_504 rrA bel_504 hO
              go_wp2_with fail
              try simp only [Act.put]
              go_roundw
              case rel => exact ⟨⟨k + 1, by omega, by go_num, by rw [HNX.out]; first | rfl | go_num, U_506⟩, T_506, bel_506⟩
              case measure => simp [intOf]; omega
          · obtain rfl : k = 16 := by omega
            rw [up_all] at hU
            rw [hi_all]
            have KD := Lib.hid (root_ok t)
            have CR1 : Hid (∀ w0, TrAt w0 B1 m1 t → w0.rangeAt 0 0 (u32s ks) → Calls Tryd.prog 19 #[.pointer (some ⟨B1, 0, none⟩)] w0 fun e w' => e = .returned (.agg (u8s (rootD t)).toArray) ∧ Below w0.heap.size w0 w') := Lib.hid fun w0 h0 h => root_any B1 m1 t w0 h0 HG.out h
            have CR2 : Hid (∀ w0, TrAt w0 B2 m2 t → w0.rangeAt 0 0 (u32s ks) → Calls Tryd.prog 19 #[.pointer (some ⟨B2, 0, none⟩)] w0 fun e w' => e = .returned (.agg (u8s (rootD t)).toArray) ∧ Below w0.heap.size w0 w') := Lib.hid fun w0 h0 h => root_any B2 m2 t w0 h0 HG.out h
            have CL1 : Hid (∀ w0, TrAt w0 B1 m1 t → Calls Tryd.prog 13 #[.pointer (some ⟨B1, 0, none⟩)] w0 fun e w' => e = .returned (.int .i64 (cntM t 16 : Int)) ∧ Below w0.heap.size w0 w') := Lib.hid fun w0 h0 => len_any B1 m1 t w0 h0 HG.out
            have CL2 : Hid (∀ w0, TrAt w0 B2 m2 t → Calls Tryd.prog 13 #[.pointer (some ⟨B2, 0, none⟩)] w0 fun e w' => e = .returned (.int .i64 (cntM t 16 : Int)) ∧ Below w0.heap.size w0 w') := Lib.hid fun w0 h0 => len_any B2 m2 t w0 h0 HG.out
            generalize rootD t = dd at KD CR1 CR2
            generalize cntM t 16 = n at CL1 CL2 ⊢
            go_wp2_with fail
            refine (CR2.out _ hU (HKW.out _ bel)).mono ?_
            rintro e y701 ⟨rfl, hB⟩
            have T_702 : TrAt y701 B1 m1 (t) := hT.old hB
            have U_702 : TrAt y701 B2 m2 (t) := hU.old hB
            have bel_702 : Below w.heap.size w y701 := below_step bel bel.size hB
            clear hT hU bel hB
            go_wp2_with fail
            refine (CR1.out _ T_702 (HKW.out _ bel_702)).mono ?_
            rintro e y703 ⟨rfl, hB⟩
            have T_704 : TrAt y703 B1 m1 (t) := T_702.old hB
            have U_704 : TrAt y703 B2 m2 (t) := U_702.old hB
            have bel_704 : Below w.heap.size w y703 := below_step bel_702 bel_702.size hB
            clear T_702 U_702 bel_702 hB
            go_wp2_with (first
              | ((with_reducible refine at_slot 55 ?_); (refine arm_want (.bool true) 55 rfl (by kernel_rfl) (run_op_eqlD KD.out KD.out _ _ _ rfl rfl rfl true ⟨fun _ => rfl, fun _ => rfl⟩ _) ?_)))
            refine (CL2.out _ U_704).mono ?_
            rintro e y705 ⟨rfl, hB⟩
            have T_706 : TrAt y705 B1 m1 (t) := T_704.old hB
            have U_706 : TrAt y705 B2 m2 (t) := U_704.old hB
            have bel_706 : Below w.heap.size w y705 := below_step bel_704 bel_704.size hB
            clear T_704 U_704 bel_704 hB
            go_wp2_with (first
              | ((with_reducible refine at_slot 60 ?_); (refine arm_want (.bool true) 60 rfl (by kernel_rfl) (cmp_eql _ _ .i64 (by kernel_rfl) _ _ rfl .i64 ((n : Int)) ((n : Int)) rfl rfl true (decide_eq_true rfl) _) ?_)))
            refine (CL1.out _ T_706).mono ?_
            rintro e y707 ⟨rfl, hB⟩
            have T_708 : TrAt y707 B1 m1 (t) := T_706.old hB
            have U_708 : TrAt y707 B2 m2 (t) := U_706.old hB
            have bel_708 : Below w.heap.size w y707 := below_step bel_706 bel_706.size hB
            clear T_706 U_706 bel_706 hB
            go_wp2_with (first
              | ((with_reducible refine at_slot 66 ?_); (refine arm_want (.bool true) 66 rfl (by kernel_rfl) (cmp_eql _ _ .i64 (by kernel_rfl) _ _ rfl .i64 ((n : Int)) ((n : Int)) rfl rfl true (decide_eq_true rfl) _) ?_)))
            go_ret
            exact ⟨rfl, bel_708⟩
  · skip
    go_wp2_with fail
    go_ret
    exact ⟨rfl, bel_4⟩
end Go.Proofs.YtpebadhknpohkaaDoor.Tr
