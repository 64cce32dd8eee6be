/-
  The walk of layer 15's statement TreeDoes, out of the contracts: it returns true, and changes nothing that was there. Over this seat's translation.
-/
import Derived.Test.YtpebadhknpohkaaDoorTreLaws2
import Derived.Test.YtpebadhknpohkaaDoorTreRPath
namespace Go.Proofs.YtpebadhknpohkaaDoor.Tr
open Go.ChangeShapes Go.WideShapes Go.ChangeAt Go.RowKit Go.Proofs.YtpebadhknpohkaaDoor.Mem Go.Proofs.YtpebadhknpohkaaDoor.Bt Go.Proofs.YtpebadhknpohkaaDoor.Wi Go.Proofs.YtpebadhknpohkaaDoor.Sha Go.Proofs.YtpebadhknpohkaaDoor.Ac Go.Proofs.YtpebadhknpohkaaDoor.Im
open Go.Proofs.YtpebadhknpohkaaDoor.Tg (bytesOf bytesOf_length bytesOf_lt bytesOf_inj Rd Rd.below Parts parts_one arm_one tagD tagD_len tagOf_any refTag_any total)
open Go.Proofs.YtpebadhknpohkaaDoor.Sl (Kind At run_op_index)
open Go.Proofs.YtpebadhknpohkaaDoor.Ep (H32 zh zh_ok Has h_len szH zH fitH allH came_at)
set_option linter.unusedVariables false
set_option linter.unusedSimpArgs false

structure TdRel (w : World) (B m C : Nat) (l : List Acta) (i : Value) (wr : World) : Prop where
  ex : ∃ k : Nat, k ≤ l.length ∧ i = .int .i64 (k : Int)
  tr : ∃ t, Good t ∧ TrAt wr B m t ∧ RAt wr C t
  bel : Below w.heap.size w wr
theorem act_ne_rtree {w : World} {X C : Nat} {t : Tree} {ty : TypeId} {c : List Value} (h : Row w X ty c) (g : RAt w C t) (hl : c.length = 5) : X ≠ C := by
  rintro rfl
  have e := congrArg List.length (h.inj g.row)
  rw [rt_len (accs_len t) (iss_len t), hl] at e
  omega
theorem tree_ne_rtree {w : World} {B m C : Nat} {t u : Tree} (h : TrAt w B m t) (g : RAt w C u) : B ≠ C := by
  rintro rfl
  have e := congrArg List.length (h.row.inj g.row)
  rw [rt_len (accs_len u) (iss_len u)] at e
  unfold tcs at e
  rw [List.length_append, dgC_len b5 b5_ok] at e
  simp [b5] at e
set_option maxHeartbeats 4000000 in
set_option maxRecDepth 100000 in
theorem treeDoes_any (l : List Acta) (P : Option Addr) (pc : Nat) (p : Int) (w : World) (hs : At kT w P l) (hp : -9223372036854775808 ≤ p ∧ p ≤ 9223372036854775807) (hk : w.rangeAt 0 0 (u32s ks)) (hk2 : w.rangeAt 1 0 (u32s ks)) :
    Calls Tryd.prog 3 #[.slice P l.length pc, .int .i64 p] w fun e w' => e = .returned (.bool true) ∧ Below w.heap.size w w' := by
  have hk1 : 0 < w.heap.size := range_lt hk (by simp [u32s, ks])
  have HKW : Hid (∀ w', Below w.heap.size w w' → w'.rangeAt 0 0 (u32s ks)) := Lib.hid fun w' hb => range_block hk (hb.block _ hk1)
  have hk3 : 1 < w.heap.size := range_lt hk2 (by simp [u32s, ks])
  have HKW2 : Hid (∀ w', Below w.heap.size w w' → w'.rangeAt 1 0 (u32s ks)) := Lib.hid fun w' hb => range_block hk2 (hb.block _ hk3)
  have HS := Lib.hid hs
  have CA := Lib.hid (fun w0 h => awake_any w0 h)
  have CLG := Lib.hid (fun w0 h => large_any l P pc w0 h)
  have CN := Lib.hid (fun w0 h => new_any w0 h)
  have HP : Hid (Is64 p) := Lib.hid (by simp [Is64, Lit.wf, IntKind.min, IntKind.max, IntKind.signed, IntKind.bits]; omega)
  have BT := Lib.hid built_rtree
  clear hp
  clear hs hk hk1 hk2 hk3
  go_enter Tryd.func3, Tryd.ntmps3
  go_wp2_with fail
  refine (CA.out _ (HKW.out _ (Below.refl _ _))).mono ?_
  rintro e y1 ⟨rfl, hB⟩
  have bel_2 : Below w.heap.size w y1 := hB
  clear hB
  go_wp2_with fail
  refine (CLG.out _ (HS.out.below bel_2)).mono ?_
  rintro e y3 ⟨⟨b, rfl, hb30⟩, hB⟩
  have bel_4 : Below w.heap.size w y3 := below_step bel_2 bel_2.size hB
  clear bel_2 hB
  cases b
  · have HL := Lib.hid (hb30 rfl)
    clear hb30
    go_wp2_with fail
    have szT := bel_4.size
    refine (CN.out _ (HKW.out _ bel_4)).mono ?_
    rintro e y5 ⟨⟨B, m, rfl, hTT, gBT, gmT⟩, hB⟩
    have bel_6 : Below w.heap.size w y5 := below_step bel_4 bel_4.size hB
    clear bel_4 hB
    have geB : w.heap.size ≤ B := by omega
    have gem : w.heap.size ≤ m := by omega
    clear szT gBT gmT
    go_wp2_with (first
      | ((with_reducible refine at_slot 27 ?_); (refine arm_box (o := ⟨some 27, _, _, _, _, _⟩) rfl _ _ rfl (rtcs (accs bare) (iss bare)) rfl ?_); intro C v7 Ce hv7 nv7)
      | ((with_reducible refine at_slot 26 ?_); (refine arm_build (o := ⟨some 26, _, _, _, _, _⟩) rfl _ _ rfl (rtcs (accs bare) (iss bare)) (by simp only [List.map_toArray, List.map_nil]; exact BT.out) ?_)))
    have hbv7 := nv7.below
    have rrv7 : Row v7 C 35 (rtcs (accs bare) (iss bare)) := hv7
    have geC : w.heap.size ≤ C := by have := Ce.out; have := bel_6.size; omega
    clear hv7 nv7 Ce
    have T_8 : TrAt v7 B m (bare) := hTT.old hbv7
    have bel_8 : Below w.heap.size w v7 := below_step bel_6 bel_6.size hbv7
    clear hTT bel_6 hbv7
    try simp only [Act.put]
    have h0 : TdRel w B m C l (.int .i64 0) v7 := ⟨⟨0, by omega, rfl⟩, ⟨bare, good_bare, T_8, ⟨rrv7⟩⟩, bel_8⟩
    clear T_8 rrv7 bel_8 CN CA CLG
    go_loopw [30] (fun i wr => TdRel w B m C l i wr) (fun i _ => l.length - (intOf i).toNat)
    case atStart => exact h0
    case round =>
      clear h0
      obtain ⟨⟨k, hk, rfl⟩, ⟨t, hg, hT, hR⟩, bel⟩ := hrel
      by_cases hlt : k < l.length
      · have hk30 : k < 30 := by have := HL.out; omega
        have hBC := tree_ne_rtree hT hR
        have hmC : m ≠ C := hT.map.row hR.row
        obtain ⟨x, g, o, hx, kx, hP, hgl, hrx⟩ := HS.out.get hlt
        subst hP
        have RX := Lib.hid (range_block hrx (bel.block g hgl))
        have ik : (k : Int) < (l.length : Int) := by omega
        have KX := Lib.hid kx
        have SX := Lib.hid (sz_act x); have FX := Lib.hid (fitT x); have OX := Lib.hid (acta_one x); have LX := Lib.hid (allT x)
        clear hrx kx hx
        go_wp2_with (first
          | ((with_reducible refine at_slot 32 ?_); (refine arm_want (.pointer (some ⟨g, o + k * 5, none⟩)) 32 rfl (by kernel_rfl) (run_op_index fT _ _ rfl g o _ _ rfl .i64 _ rfl k rfl hlt _) ?_))
          | ((with_reducible refine at_slot 33 ?_); (refine arm_load (o := ⟨some 33, _, _, _, _, _⟩) rfl _ _ rfl g (o + k * 5) rfl (acta x) (RX.out) SX.out ?_))
          | ((with_reducible refine at_slot 8 ?_); (refine arm_alloc (o := ⟨some 8, _, _, _, _, _⟩) rfl _ rfl (acta zt) z_act ?_); intro X v301a Xe hXa nX)
          | ((with_reducible refine arm_store (o := ⟨none, _, _, _, _, _⟩) rfl _ _ _ rfl X 0 rfl (acta x) rfl _ _ hXa FX.out OX.out SX.out ?_); intro v301 hXb oX sX)
          | ((with_reducible refine at_slot 36 ?_); (refine arm_load (o := ⟨some 36, _, _, _, _, _⟩) rfl _ _ rfl X 0 rfl (acta x) ((Has.refl _).range (hXb.congr LX.out)) SX.out ?_)))
        have lX : wr.heap.size ≤ X := by have := Xe.out; omega
        have bX : Below wr.heap.size wr v301 := below_only nX.below oX lX nX.below.size
        have rrX : Row v301 X 38 (acta x) := hXb.congr LX.out
        have geX : w.heap.size ≤ X := Nat.le_trans bel.size lX
        clear hXa hXb nX oX sX Xe lX
        have T_302 : TrAt v301 B m (t) := hT.old bX
        have R_302 : RAt v301 C (t) := hR.old bX
        have bel_302 : Below w.heap.size w v301 := below_step bel bel.size bX
        clear hT hR bel bX
        refine (do_any B m t x _ T_302 KX.out).mono ?_
        rintro e y303 ⟨rfl, hT, hO⟩
        have T_304 : TrAt y303 B m (doT t x) := hT
        have R_304 : RAt y303 C (t) := R_302.only hO (Ne.symm hmC)
        have X_304 : Row y303 X 38 (acta x) := rrX.only hO (Ne.symm (T_302.map.row rrX))
        have bel_304 : Below w.heap.size w y303 := below_only bel_302 hO gem bel_302.size
        clear T_302 R_302 rrX bel_302 hO
        have hg2 := good_do hg KX.out
        have X0 := Lib.hid (show (acta x)[0]? = some (.int .i64 x.doo) from rfl)
        have X1 := Lib.hid (show (acta x)[1]? = some (.int .i64 x.pl) from rfl)
        have XL := Lib.hid (acta_len x)
        have XA := Lib.hid (acta_acc x); have SA := Lib.hid (sz_racc x.ac)
        have CS := Lib.hid (fun w0 h0 => rset_any C t x.pl x.ac w0 h0)
        have CD := Lib.hid (fun w0 h0 => rdrop_any C t x.pl w0 h0 hg)
        have CL1 := Lib.hid (fun w0 h0 => len_any B m (doT t x) w0 h0 hg2)
        have CL2 := Lib.hid (fun w0 h0 => rlen_any C (doT t x) w0 h0)
        have HG2 := Lib.hid hg2
        clear hg hg2
        generalize hcn : cntM (doT t x) 16 = n at CL1 CL2
        clear hcn
        obtain ⟨c, hc⟩ : ∃ c, c = acta x := ⟨_, rfl⟩
        have HFX : Hid (∀ w0, Row w0 X 38 (acta x) → Row w0 X 38 c) := Lib.hid fun w0 h => hc ▸ h
        rw [← hc] at X0 X1 XA XL
        clear hc
        have rXc := HFX.out _ X_304
        clear X_304
        have HDT : Hid (doT t x = if x.doo = 0 then setR t x.pl x.ac else if x.doo = 1 then dropR t x.pl else t) := Lib.hid rfl
        have HDE : Hid (doE x = if x.doo = 0 then setE x.pl x.ac else 0) := Lib.hid rfl
        have HDB : Hid (doB t x = if x.doo = 0 then false else if x.doo = 1 then (atI t x.pl).isSome else false) := Lib.hid rfl
        obtain ⟨d, hd⟩ : ∃ d, d = x.doo := ⟨_, rfl⟩
        rw [← hd] at X0 HDT HDE HDB
        clear hd
        generalize doE x = e0 at HDE ⊢
        generalize doB t x = b0 at HDB ⊢
        have hc0 := rXc.cell X0.out; have hc1 := rXc.cell X1.out
        skip
        by_cases h0 : d = 0
        · skip
          have HT : Hid (setR t x.pl x.ac = doT t x) := Lib.hid (by rw [HDT.out, if_pos h0])
          have HE : Hid (setE x.pl x.ac = e0) := Lib.hid (by rw [HDE.out, if_pos h0])
          have HB : Hid (false = b0) := Lib.hid (by rw [HDB.out, if_pos h0])
          obtain rfl := HB.out
          clear HDT HDE HDB HB
          go_wp2_with (first
            | ((with_reducible refine at_slot 43 ?_); (refine arm_want (.bool true) 43 rfl (by kernel_rfl) (cmp_eql _ _ .i64 (by kernel_rfl) _ _ rfl .i64 (d) (0) rfl rfl true (decide_eq_true (by omega)) _) ?_))
            | ((with_reducible refine at_slot 48 ?_); (refine arm_load (o := ⟨some 48, _, _, _, _, _⟩) rfl _ _ rfl X 2 rfl (acs x.ac) (XA.out.range rXc) SA.out ?_)))
          clear hc0 hc1
          refine (CS.out _ R_304).mono ?_
          rintro e y305 ⟨rfl, hR2, hO⟩
          rw [HT.out] at hR2
          have T_306 : TrAt y305 B m (doT t x) := T_304.only hO hBC hmC
          have R_306 : RAt y305 C (doT t x) := hR2
          have X_306 : Row y305 X 38 (c) := rXc.only hO (act_ne_rtree rXc R_304 XL.out)
          have bel_306 : Below w.heap.size w y305 := below_only bel_304 hO geC bel_304.size
          clear T_304 R_304 rXc bel_304 hO
          rw [HE.out]
          go_wp2_with (first
            | ((with_reducible refine at_slot 58 ?_); (refine arm_want (.bool false) 58 rfl (by kernel_rfl) (cmp_neq _ _ .i64 (by kernel_rfl) _ _ rfl .i64 ((e0 : Int)) ((e0 : Int)) rfl rfl false (decide_eq_true rfl) _) ?_))
            | ((with_reducible refine at_slot 62 ?_); (refine arm_want (.bool false) 62 rfl (by kernel_rfl) (run_op_neqBB _ _ _ rfl false false rfl rfl false (by first | rfl | (cases false <;> rfl)) _) ?_)))
          refine (CL1.out _ T_306).mono ?_
          rintro e y307 ⟨rfl, hB⟩
          have T_308 : TrAt y307 B m (doT t x) := T_306.old hB
          have R_308 : RAt y307 C (doT t x) := R_306.old hB
          have X_308 : Row y307 X 38 (c) := X_306.old hB
          have bel_308 : Below w.heap.size w y307 := below_step bel_306 bel_306.size hB
          clear T_306 R_306 X_306 bel_306 hB
          go_wp2_with fail
          refine (CL2.out _ R_308).mono ?_
          rintro e y309 ⟨rfl, hB⟩
          have T_310 : TrAt y309 B m (doT t x) := T_308.old hB
          have R_310 : RAt y309 C (doT t x) := R_308.old hB
          have X_310 : Row y309 X 38 (c) := X_308.old hB
          have bel_310 : Below w.heap.size w y309 := below_step bel_308 bel_308.size hB
          clear T_308 R_308 X_308 bel_308 hB
          go_wp2_with (first
            | ((with_reducible refine at_slot 69 ?_); (refine arm_want (.bool false) 69 rfl (by kernel_rfl) (cmp_neq _ _ .i64 (by kernel_rfl) _ _ rfl .i64 ((n : Int)) ((n : Int)) rfl rfl false (decide_eq_true rfl) _) ?_)))
          try simp only [Act.put]
          go_roundw
          case rel => exact ⟨⟨k + 1, by omega, by go_num⟩, ⟨_, HG2.out, T_310, R_310⟩, bel_310⟩
          case measure => simp [intOf]; omega
        · by_cases h1 : d = 1
          · skip
            have HT : Hid (dropR t x.pl = doT t x) := Lib.hid (by rw [HDT.out, if_neg h0, if_pos h1])
            have HE : Hid (0 = e0) := Lib.hid (by rw [HDE.out, if_neg h0])
            have HB : Hid ((atI t x.pl).isSome = b0) := Lib.hid (by rw [HDB.out, if_neg h0, if_pos h1])
            obtain rfl := HE.out
            clear HDT HDE HDB HE
            go_wp2_with (first
              | ((with_reducible refine at_slot 43 ?_); (refine arm_want (.bool false) 43 rfl (by kernel_rfl) (cmp_eql _ _ .i64 (by kernel_rfl) _ _ rfl .i64 (d) (0) rfl rfl false (decide_eq_false (by omega)) _) ?_))
              | ((with_reducible refine at_slot 51 ?_); (refine arm_want (.bool true) 51 rfl (by kernel_rfl) (cmp_eql _ _ .i64 (by kernel_rfl) _ _ rfl .i64 (d) (1) rfl rfl true (decide_eq_true (by omega)) _) ?_)))
            clear hc0 hc1
            refine (CD.out _ R_304).mono ?_
            rintro e y305 ⟨rfl, hR2, hO⟩
            rw [HT.out] at hR2
            have T_306 : TrAt y305 B m (doT t x) := T_304.only hO hBC hmC
            have R_306 : RAt y305 C (doT t x) := hR2
            have X_306 : Row y305 X 38 (c) := rXc.only hO (act_ne_rtree rXc R_304 XL.out)
            have bel_306 : Below w.heap.size w y305 := below_only bel_304 hO geC bel_304.size
            clear T_304 R_304 rXc bel_304 hO
            rw [HB.out]
            go_wp2_with (first
              | ((with_reducible refine at_slot 58 ?_); (refine arm_want (.bool false) 58 rfl (by kernel_rfl) (cmp_neq _ _ .i64 (by kernel_rfl) _ _ rfl .i64 ((0 : Int)) ((0 : Int)) rfl rfl false (decide_eq_true rfl) _) ?_))
              | ((with_reducible refine at_slot 62 ?_); (refine arm_want (.bool false) 62 rfl (by kernel_rfl) (run_op_neqBB _ _ _ rfl b0 b0 rfl rfl false (by first | rfl | (cases b0 <;> rfl)) _) ?_)))
            refine (CL1.out _ T_306).mono ?_
            rintro e y307 ⟨rfl, hB⟩
            have T_308 : TrAt y307 B m (doT t x) := T_306.old hB
            have R_308 : RAt y307 C (doT t x) := R_306.old hB
            have X_308 : Row y307 X 38 (c) := X_306.old hB
            have bel_308 : Below w.heap.size w y307 := below_step bel_306 bel_306.size hB
            clear T_306 R_306 X_306 bel_306 hB
            go_wp2_with fail
            refine (CL2.out _ R_308).mono ?_
            rintro e y309 ⟨rfl, hB⟩
            have T_310 : TrAt y309 B m (doT t x) := T_308.old hB
            have R_310 : RAt y309 C (doT t x) := R_308.old hB
            have X_310 : Row y309 X 38 (c) := X_308.old hB
            have bel_310 : Below w.heap.size w y309 := below_step bel_308 bel_308.size hB
            clear T_308 R_308 X_308 bel_308 hB
            go_wp2_with (first
              | ((with_reducible refine at_slot 69 ?_); (refine arm_want (.bool false) 69 rfl (by kernel_rfl) (cmp_neq _ _ .i64 (by kernel_rfl) _ _ rfl .i64 ((n : Int)) ((n : Int)) rfl rfl false (decide_eq_true rfl) _) ?_)))
            try simp only [Act.put]
            go_roundw
            case rel => exact ⟨⟨k + 1, by omega, by go_num⟩, ⟨_, HG2.out, T_310, R_310⟩, bel_310⟩
            case measure => simp [intOf]; omega
          · skip
            have HT : Hid (t = doT t x) := Lib.hid (by rw [HDT.out, if_neg h0, if_neg h1])
            have HE : Hid (0 = e0) := Lib.hid (by rw [HDE.out, if_neg h0])
            have HB : Hid (false = b0) := Lib.hid (by rw [HDB.out, if_neg h0, if_neg h1])
            obtain rfl := HE.out
            obtain rfl := HB.out
            clear HDT HDE HDB HE HB
            have hR3 : RAt y303 C (doT t x) := HT.out ▸ R_304
            clear R_304
            go_wp2_with (first
              | ((with_reducible refine at_slot 43 ?_); (refine arm_want (.bool false) 43 rfl (by kernel_rfl) (cmp_eql _ _ .i64 (by kernel_rfl) _ _ rfl .i64 (d) (0) rfl rfl false (decide_eq_false (by omega)) _) ?_))
              | ((with_reducible refine at_slot 51 ?_); (refine arm_want (.bool false) 51 rfl (by kernel_rfl) (cmp_eql _ _ .i64 (by kernel_rfl) _ _ rfl .i64 (d) (1) rfl rfl false (decide_eq_false (by omega)) _) ?_))
              | ((with_reducible refine at_slot 58 ?_); (refine arm_want (.bool false) 58 rfl (by kernel_rfl) (cmp_neq _ _ .i64 (by kernel_rfl) _ _ rfl .i64 ((0 : Int)) ((0 : Int)) rfl rfl false (decide_eq_true rfl) _) ?_))
              | ((with_reducible refine at_slot 62 ?_); (refine arm_want (.bool false) 62 rfl (by kernel_rfl) (run_op_neqBB _ _ _ rfl false false rfl rfl false (by first | rfl | (cases false <;> rfl)) _) ?_)))
            refine (CL1.out _ T_304).mono ?_
            rintro e y305 ⟨rfl, hB⟩
            have T_306 : TrAt y305 B m (doT t x) := T_304.old hB
            have R_306 : RAt y305 C (doT t x) := hR3.old hB
            have X_306 : Row y305 X 38 (c) := rXc.old hB
            have bel_306 : Below w.heap.size w y305 := below_step bel_304 bel_304.size hB
            clear T_304 hR3 rXc bel_304 hB
            go_wp2_with fail
            refine (CL2.out _ R_306).mono ?_
            rintro e y307 ⟨rfl, hB⟩
            have T_308 : TrAt y307 B m (doT t x) := T_306.old hB
            have R_308 : RAt y307 C (doT t x) := R_306.old hB
            have X_308 : Row y307 X 38 (c) := X_306.old hB
            have bel_308 : Below w.heap.size w y307 := below_step bel_306 bel_306.size hB
            clear T_306 R_306 X_306 bel_306 hB
            go_wp2_with (first
              | ((with_reducible refine at_slot 69 ?_); (refine arm_want (.bool false) 69 rfl (by kernel_rfl) (cmp_neq _ _ .i64 (by kernel_rfl) _ _ rfl .i64 ((n : Int)) ((n : Int)) rfl rfl false (decide_eq_true rfl) _) ?_)))
            try simp only [Act.put]
            go_roundw
            case rel => exact ⟨⟨k + 1, by omega, by go_num⟩, ⟨_, HG2.out, T_308, R_308⟩, bel_308⟩
            case measure => simp [intOf]; omega
      · obtain rfl : k = l.length := by omega
        have HG := Lib.hid hg
        have CG1 : Hid (∀ w0, TrAt w0 B m t → Calls Tryd.prog 15 #[.pointer (some ⟨B, 0, none⟩), .int .i64 p] w0 fun e w' => e = .returned (.tuple #[.agg (acs ((atI t p).getD za)).toArray, .bool (atI t p).isSome]) ∧ Below w0.heap.size w0 w') := Lib.hid fun w0 h0 => (get_any B m t _ w0 h0 HP.out).mono fun e w' h => ⟨h.ret, h.bel⟩
        have CG2 : Hid (∀ w0, RAt w0 C t → Calls Tryd.prog 16 #[.pointer (some ⟨C, 0, none⟩), .int .i64 p] w0 fun e w' => e = .returned (.tuple #[.agg (acs ((atI t p).getD za)).toArray, .bool (atI t p).isSome]) ∧ Below w0.heap.size w0 w') := Lib.hid fun w0 h0 => (rget_any C t _ w0 h0 HG.out).mono fun e w' h => ⟨h.ret, h.bel⟩
        have CP1 : Hid (∀ w0, TrAt w0 B m t → w0.rangeAt 0 0 (u32s ks) → Calls Tryd.prog 17 #[.pointer (some ⟨B, 0, none⟩), .int .i64 p] w0 fun e w' => e = .returned (.tuple #[.agg (dgC (pathI t p)).toArray, .int .i64 (pathE p : Int)]) ∧ Below w0.heap.size w0 w') := Lib.hid fun w0 h0 h => (path_any B m _ _ w0 h0 HG.out h).mono fun e w' h => ⟨h.ret, h.bel⟩
        have CP2 : Hid (∀ w0, RAt w0 C t → w0.rangeAt 1 0 (u32s ks) → Calls Tryd.prog 18 #[.pointer (some ⟨C, 0, none⟩), .int .i64 p] w0 fun e w' => e = .returned (.tuple #[.agg (dgC (pathI t p)).toArray, .int .i64 (pathE p : Int)]) ∧ Below w0.heap.size w0 w') := Lib.hid fun w0 h0 h => (rpath_any C _ _ w0 h0 HG.out h).mono fun e w' h => ⟨h.ret, h.bel⟩
        have CR1 : Hid (∀ w0, TrAt w0 B m t → w0.rangeAt 0 0 (u32s ks) → Calls Tryd.prog 19 #[.pointer (some ⟨B, 0, none⟩)] w0 fun e w' => e = .returned (.agg (u8s (rootD t)).toArray) ∧ Below w0.heap.size w0 w') := Lib.hid fun w0 h0 h => root_any B m t w0 h0 HG.out h
        have CR2 : Hid (∀ w0, RAt w0 C t → w0.rangeAt 1 0 (u32s ks) → Calls Tryd.prog 20 #[.pointer (some ⟨C, 0, none⟩)] w0 fun e w' => e = .returned (.agg (u8s (rootD t)).toArray) ∧ Below w0.heap.size w0 w') := Lib.hid fun w0 h0 h => rroot_any C t w0 h0 HG.out h
        have KD := Lib.hid (root_ok t)
        have PO := Lib.hid (pathI_ok t p); have PL := Lib.hid (pathI_len t p)
        generalize rootD t = dd at KD CR1 CR2
        generalize (atI t p).getD za = x at CG1 CG2
        generalize (atI t p).isSome = b at CG1 CG2
        generalize pathI t p = pp at CP1 CP2 PO PL
        generalize pathE p = pe at CP1 CP2
        have KP := Lib.hid (sz_path PO.out PL.out); have PF := Lib.hid (fitP PO.out PL.out); have PA := Lib.hid (allP PO.out PL.out); have KRP := Lib.hid (sz_rpath PO.out PL.out)
        have KA := Lib.hid (sz_acc x); have KRA := Lib.hid (sz_racc x); have OA := Lib.hid (acs_one x); have LA := Lib.hid (allA x); have FA := Lib.hid (fitA x)
        clear hg hlt hk
        go_wp2_with fail
        refine (CG1.out _ hT).mono ?_
        rintro e y601 ⟨rfl, hB⟩
        have T_602 : TrAt y601 B m (t) := hT.old hB
        have R_602 : RAt y601 C (t) := hR.old hB
        have bel_602 : Below w.heap.size w y601 := below_step bel bel.size hB
        clear hT hR bel hB
        go_wp2_with (first
          | ((with_reducible refine at_slot 13 ?_); (refine arm_alloc (o := ⟨some 13, _, _, _, _, _⟩) rfl _ rfl (acs za) z_acc ?_); intro A1 v603a A1e hA1a nA1)
          | ((with_reducible refine arm_store (o := ⟨none, _, _, _, _, _⟩) rfl _ _ _ rfl A1 0 rfl (acs x) rfl _ _ hA1a FA.out OA.out KA.out ?_); intro v603 hA1b oA1 sA1))
        have lA1 : y601.heap.size ≤ A1 := by have := A1e.out; omega
        have bA1 : Below y601.heap.size y601 v603 := below_only nA1.below oA1 lA1 nA1.below.size
        have rrA1 : Row v603 A1 36 (acs x) := hA1b.congr LA.out
        have geA1 : w.heap.size ≤ A1 := Nat.le_trans bel_602.size lA1
        clear hA1a hA1b nA1 oA1 sA1 A1e lA1
        have T_604 : TrAt v603 B m (t) := T_602.old bA1
        have R_604 : RAt v603 C (t) := R_602.old bA1
        have bel_604 : Below w.heap.size w v603 := below_step bel_602 bel_602.size bA1
        clear T_602 R_602 bel_602 bA1
        refine (CG2.out _ R_604).mono ?_
        rintro e y605 ⟨rfl, hB⟩
        have T_606 : TrAt y605 B m (t) := T_604.old hB
        have R_606 : RAt y605 C (t) := R_604.old hB
        have A1_606 : Row y605 A1 36 (acs x) := rrA1.old hB
        have bel_606 : Below w.heap.size w y605 := below_step bel_604 bel_604.size hB
        clear T_604 R_604 rrA1 bel_604 hB
        go_wp2_with (first
          | ((with_reducible refine at_slot 15 ?_); (refine arm_alloc (o := ⟨some 15, _, _, _, _, _⟩) rfl _ rfl (acs za) z_racc ?_); intro A2 v607a A2e hA2a nA2)
          | ((with_reducible refine arm_store (o := ⟨none, _, _, _, _, _⟩) rfl _ _ _ rfl A2 0 rfl (acs x) rfl _ _ hA2a FA.out OA.out KRA.out ?_); intro v607 hA2b oA2 sA2))
        have lA2 : y605.heap.size ≤ A2 := by have := A2e.out; omega
        have bA2 : Below y605.heap.size y605 v607 := below_only nA2.below oA2 lA2 nA2.below.size
        have rrA2 : Row v607 A2 31 (acs x) := hA2b.congr LA.out
        have geA2 : w.heap.size ≤ A2 := Nat.le_trans bel_606.size lA2
        clear hA2a hA2b nA2 oA2 sA2 A2e lA2
        have T_608 : TrAt v607 B m (t) := T_606.old bA2
        have R_608 : RAt v607 C (t) := R_606.old bA2
        have A1_608 : Row v607 A1 36 (acs x) := A1_606.old bA2
        have bel_608 : Below w.heap.size w v607 := below_step bel_606 bel_606.size bA2
        clear T_606 R_606 A1_606 bel_606 bA2
        refine (CP1.out _ T_608 (HKW.out _ bel_608)).mono ?_
        rintro e y609 ⟨rfl, hB⟩
        have T_610 : TrAt y609 B m (t) := T_608.old hB
        have R_610 : RAt y609 C (t) := R_608.old hB
        have A1_610 : Row y609 A1 36 (acs x) := A1_608.old hB
        have A2_610 : Row y609 A2 31 (acs x) := rrA2.old hB
        have bel_610 : Below w.heap.size w y609 := below_step bel_608 bel_608.size hB
        clear T_608 R_608 A1_608 rrA2 bel_608 hB
        go_wp2_with (first
          | ((with_reducible refine at_slot 17 ?_); (refine arm_alloc (o := ⟨some 17, _, _, _, _, _⟩) rfl _ rfl (dgC z4) z_path ?_); intro P1 v611a P1e hP1a nP1)
          | ((with_reducible refine arm_store (o := ⟨none, _, _, _, _, _⟩) rfl _ _ _ rfl P1 0 rfl (dgC pp) rfl _ _ hP1a PF.out (dgC_ones _) KP.out ?_); intro v611 hP1b oP1 sP1))
        have lP1 : y609.heap.size ≤ P1 := by have := P1e.out; omega
        have bP1 : Below y609.heap.size y609 v611 := below_only nP1.below oP1 lP1 nP1.below.size
        have rrP1 : Row v611 P1 52 (dgC pp) := hP1b.congr PA.out
        have geP1 : w.heap.size ≤ P1 := Nat.le_trans bel_610.size lP1
        clear hP1a hP1b nP1 oP1 sP1 P1e lP1
        have T_612 : TrAt v611 B m (t) := T_610.old bP1
        have R_612 : RAt v611 C (t) := R_610.old bP1
        have A1_612 : Row v611 A1 36 (acs x) := A1_610.old bP1
        have A2_612 : Row v611 A2 31 (acs x) := A2_610.old bP1
        have bel_612 : Below w.heap.size w v611 := below_step bel_610 bel_610.size bP1
        clear T_610 R_610 A1_610 A2_610 bel_610 bP1
        refine (CP2.out _ R_612 (HKW2.out _ bel_612)).mono ?_
        rintro e y613 ⟨rfl, hB⟩
        have T_614 : TrAt y613 B m (t) := T_612.old hB
        have R_614 : RAt y613 C (t) := R_612.old hB
        have A1_614 : Row y613 A1 36 (acs x) := A1_612.old hB
        have A2_614 : Row y613 A2 31 (acs x) := A2_612.old hB
        have P1_614 : Row y613 P1 52 (dgC pp) := rrP1.old hB
        have bel_614 : Below w.heap.size w y613 := below_step bel_612 bel_612.size hB
        clear T_612 R_612 A1_612 A2_612 rrP1 bel_612 hB
        go_wp2_with (first
          | ((with_reducible refine at_slot 19 ?_); (refine arm_alloc (o := ⟨some 19, _, _, _, _, _⟩) rfl _ rfl (dgC z4) z_rpath ?_); intro P2 v615a P2e hP2a nP2)
          | ((with_reducible refine arm_store (o := ⟨none, _, _, _, _, _⟩) rfl _ _ _ rfl P2 0 rfl (dgC pp) rfl _ _ hP2a PF.out (dgC_ones _) KRP.out ?_); intro v615 hP2b oP2 sP2)
          | ((with_reducible refine at_slot 96 ?_); (refine arm_load (o := ⟨some 96, _, _, _, _, _⟩) rfl _ _ rfl A1 0 rfl (acs x) ((Has.refl _).range ((A1_614.old nP2.below).only oP2 (by have := P2e.out; have := A1_614.lt; omega))) KA.out ?_))
          | ((with_reducible refine at_slot 97 ?_); (refine arm_load (o := ⟨some 97, _, _, _, _, _⟩) rfl _ _ rfl A2 0 rfl (acs x) ((Has.refl _).range ((A2_614.old nP2.below).only oP2 (by have := P2e.out; have := A2_614.lt; omega))) KRA.out ?_))
          | ((with_reducible refine at_slot 98 ?_); (refine arm_want (.bool true) 98 rfl (by kernel_rfl) (run_op_eqlRA _ _ _ rfl x x rfl rfl true ⟨fun _ => rfl, fun _ => rfl⟩ _) ?_))
          | ((with_reducible refine at_slot 102 ?_); (refine arm_want (.bool true) 102 rfl (by kernel_rfl) (run_op_eqlBB _ _ _ rfl b b rfl rfl true (by cases b <;> rfl) _) ?_)))
        have lP2 : y613.heap.size ≤ P2 := by have := P2e.out; omega
        have bP2 : Below y613.heap.size y613 v615 := below_only nP2.below oP2 lP2 nP2.below.size
        have rrP2 : Row v615 P2 51 (dgC pp) := hP2b.congr PA.out
        have geP2 : w.heap.size ≤ P2 := Nat.le_trans bel_614.size lP2
        clear hP2a hP2b nP2 oP2 sP2 P2e lP2
        have T_616 : TrAt v615 B m (t) := T_614.old bP2
        have R_616 : RAt v615 C (t) := R_614.old bP2
        have A1_616 : Row v615 A1 36 (acs x) := A1_614.old bP2
        have A2_616 : Row v615 A2 31 (acs x) := A2_614.old bP2
        have P1_616 : Row v615 P1 52 (dgC pp) := P1_614.old bP2
        have bel_616 : Below w.heap.size w v615 := below_step bel_614 bel_614.size bP2
        clear T_614 R_614 A1_614 A2_614 P1_614 bel_614 bP2
        refine (CR1.out _ T_616 (HKW.out _ bel_616)).mono ?_
        rintro e y617 ⟨rfl, hB⟩
        have T_618 : TrAt y617 B m (t) := T_616.old hB
        have R_618 : RAt y617 C (t) := R_616.old hB
        have A1_618 : Row y617 A1 36 (acs x) := A1_616.old hB
        have A2_618 : Row y617 A2 31 (acs x) := A2_616.old hB
        have P1_618 : Row y617 P1 52 (dgC pp) := P1_616.old hB
        have P2_618 : Row y617 P2 51 (dgC pp) := rrP2.old hB
        have bel_618 : Below w.heap.size w y617 := below_step bel_616 bel_616.size hB
        clear T_616 R_616 A1_616 A2_616 P1_616 rrP2 bel_616 hB
        go_wp2_with fail
        refine (CR2.out _ R_618 (HKW2.out _ bel_618)).mono ?_
        rintro e y619 ⟨rfl, hB⟩
        have T_620 : TrAt y619 B m (t) := T_618.old hB
        have R_620 : RAt y619 C (t) := R_618.old hB
        have A1_620 : Row y619 A1 36 (acs x) := A1_618.old hB
        have A2_620 : Row y619 A2 31 (acs x) := A2_618.old hB
        have P1_620 : Row y619 P1 52 (dgC pp) := P1_618.old hB
        have P2_620 : Row y619 P2 51 (dgC pp) := P2_618.old hB
        have bel_620 : Below w.heap.size w y619 := below_step bel_618 bel_618.size hB
        clear T_618 R_618 A1_618 A2_618 P1_618 P2_618 bel_618 hB
        go_wp2_with (first
          | ((with_reducible refine at_slot 109 ?_); (refine arm_want (.bool true) 109 rfl (by kernel_rfl) (run_op_eqlD KD.out KD.out _ _ _ rfl rfl rfl true ⟨fun _ => rfl, fun _ => rfl⟩ _) ?_))
          | ((with_reducible refine at_slot 112 ?_); (refine arm_want (.agg (dgC pp).toArray) 112 rfl (by kernel_rfl) (run_op_load _ _ rfl P1 0 rfl (dgC pp) ((Has.refl _).range P1_620) KP.out) ?_))
          | ((with_reducible refine at_slot 113 ?_); (refine arm_want (.agg (dgC pp).toArray) 113 rfl (by kernel_rfl) (run_op_load _ _ rfl P2 0 rfl (dgC pp) ((Has.refl _).range P2_620) KRP.out) ?_))
          | ((with_reducible refine at_slot 114 ?_); (refine arm_want (.bool true) 114 rfl (by kernel_rfl) (run_op_eqlP PO.out PO.out PL.out PL.out 52 (by kernel_rfl) (by kernel_rfl) _ _ _ rfl rfl rfl true ⟨fun _ => rfl, fun _ => rfl⟩ _) ?_))
          | ((with_reducible refine at_slot 119 ?_); (refine arm_want (.bool true) 119 rfl (by kernel_rfl) (cmp_eql _ _ .i64 (by kernel_rfl) _ _ rfl .i64 ((pe : Int)) ((pe : Int)) rfl rfl true (decide_eq_true rfl) _) ?_)))
        go_ret
        exact ⟨rfl, bel_620⟩
  · skip
    go_wp2_with fail
    go_ret
    exact ⟨rfl, bel_4⟩
end Go.Proofs.YtpebadhknpohkaaDoor.Tr
