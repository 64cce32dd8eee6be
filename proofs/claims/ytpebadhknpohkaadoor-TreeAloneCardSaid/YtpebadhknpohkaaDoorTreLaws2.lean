/-
  The walk of layer 15's statement TreeAlone, out of the contracts: it returns true, and changes nothing that was there. Over this seat's translation.
-/
import Derived.Test.YtpebadhknpohkaaDoorTreLaws
namespace Go.Proofs.YtpebadhknpohkaaDoor.Tr
open Go.ChangeShapes Go.WideShapes Go.ChangeAt Go.RowKit Go.Proofs.YtpebadhknpohkaaDoor.Mem Go.Proofs.YtpebadhknpohkaaDoor.Bt Go.Proofs.YtpebadhknpohkaaDoor.Wi Go.Proofs.YtpebadhknpohkaaDoor.Sha Go.Proofs.YtpebadhknpohkaaDoor.Ac Go.Proofs.YtpebadhknpohkaaDoor.Im
open Go.Proofs.YtpebadhknpohkaaDoor.Tg (bytesOf bytesOf_length bytesOf_lt bytesOf_inj Rd Rd.below Parts parts_one arm_one tagD tagD_len tagOf_any refTag_any total)
open Go.Proofs.YtpebadhknpohkaaDoor.Sl (Kind At At.row run_op_index run_op_lit allOk_cons allOk_nil)
open Go.Proofs.YtpebadhknpohkaaDoor.Ep (H32 zh zh_ok Has h_len szH zH fitH allH came_at)
set_option linter.unusedVariables false
set_option linter.unusedSimpArgs false

section
variable {α : Type} {K : Kind α} {P : Program} {ops : Array Oper} {rest : List Oper} {o : Oper} {a : Act} {w : World} {Q : Exit → Act → World → Prop}
/-- '[]T{..}', guarded. -/
theorem arm_litW (d : Tmp) (hd : o.dst = some d) (hw : Region.wanted o (yielded ops a.tmps) = true) (F : K.Fit P) (l : List α) (ok : K.AllOk l) (hn : l.length ≤ 1024) (n : Nat) (parts : Array (Nat × Operand)) (ho : o.op = .buildSlice K.ts n parts) (hl : n = l.length) (hpv : (parts.map fun (i, y) => (i, a.eval y)) = (K.parts l 0).toArray)
    (h : ∀ g w2, Hid (g = w.heap.size) → Row w2 g K.t (K.all l) → New w w2 → wpList P ops Q rest (a.put (some d) (.slice (some ⟨g, 0, none⟩) l.length l.length)) w2) : wpList P ops Q (o :: rest) a w :=
  by
  subst hl
  exact arm_wantW _ d hd hw (run_op_lit F l ok hn _ parts ho rfl hpv) (h _ _ rfl (heap_alloc_new _ _) (new_alloc _ _))
end
theorem path_do (t : Tree) (y : Acta) : pathI (doT t y) y.pl = pathI t y.pl := by
  unfold pathI
  split
  · rename_i h
    exact path_alone fun j hj => do_other y (by omega)
  · rfl
structure TaRel (w : World) (B1 m1 B2 m2 Y : Nat) (y : Acta) (l : List Acta) (i : Value) (wr : World) : Prop where
  ex : ∃ k : Nat, k ≤ l.length ∧ i = .int .i64 (k : Int)
  tr : ∃ t, Good t ∧ TrAt wr B1 m1 t ∧ TrAt wr B2 m2 t
  ry : Row wr Y 38 (acta y)
  bel : Below w.heap.size w wr
structure TbRel (w : World) (B1 m1 B2 m2 Y : Nat) (y : Acta) (t : Tree) (i : Value) (wr : World) : Prop where
  ex : ∃ k : Nat, k ≤ 16 ∧ i = .int .i64 (k : Int)
  t1 : TrAt wr B1 m1 (doT t y)
  t2 : TrAt wr B2 m2 t
  ry : Row wr Y 38 (acta y)
  bel : Below w.heap.size w wr
set_option maxHeartbeats 4000000 in
set_option maxRecDepth 100000 in
theorem treeAlone_any (l : List Acta) (P : Option Addr) (pc : Nat) (y : Acta) (w : World) (hs : At kT w P l) (ky : y.Ok) (hk : w.rangeAt 0 0 (u32s ks)) :
    Calls Tryd.prog 6 #[.slice P l.length pc, .agg (acta y).toArray] w fun e w' => e = .returned (.bool true) ∧ Below w.heap.size w w' := by
  have hk1 : 0 < w.heap.size := range_lt hk (by simp [u32s, ks])
  have HKW : Hid (∀ w', Below w.heap.size w w' → w'.rangeAt 0 0 (u32s ks)) := Lib.hid fun w' hb => range_block hk (hb.block _ hk1)
  have HS := Lib.hid hs
  have CA := Lib.hid (fun w0 h => awake_any w0 h)
  have CLG := Lib.hid (fun w0 h => large_any l P pc w0 h)
  have CN := Lib.hid (fun w0 h => new_any w0 h)
  have KY := Lib.hid ky; have SY := Lib.hid (sz_act y)
  have Y0 := Lib.hid (show (acta y)[0]? = some (.int .i64 y.doo) from rfl)
  have Y1 := Lib.hid (show (acta y)[1]? = some (.int .i64 y.pl) from rfl)
  clear ky
  clear hs hk hk1
  go_enter Tryd.func6, Tryd.ntmps6
  go_wp2_with (first
    | ((with_reducible refine at_slot 3 ?_); (refine arm_box (o := ⟨some 3, _, _, _, _, _⟩) rfl _ _ rfl (acta y) rfl ?_); intro Y v1 Ye hv1 nv1))
  have hbv1 := nv1.below
  have rrv1 : Row v1 Y 38 (acta y) := hv1
  have geY : w.heap.size ≤ Y := by have := Ye.out; omega
  clear hv1 nv1 Ye
  have bel_2 : Below w.heap.size w v1 := hbv1
  clear hbv1
  refine (CA.out _ (HKW.out _ bel_2)).mono ?_
  rintro e y3 ⟨rfl, hB⟩
  have Y_4 : Row y3 Y 38 (acta y) := rrv1.old hB
  have bel_4 : Below w.heap.size w y3 := below_step bel_2 bel_2.size hB
  clear rrv1 bel_2 hB
  go_wp2_with fail
  refine (CLG.out _ (HS.out.below bel_4)).mono ?_
  rintro e y5 ⟨⟨b, rfl, hb30⟩, hB⟩
  have Y_6 : Row y5 Y 38 (acta y) := Y_4.old hB
  have bel_6 : Below w.heap.size w y5 := below_step bel_4 bel_4.size hB
  clear Y_4 bel_4 hB
  cases b
  · have HL := Lib.hid (hb30 rfl)
    clear hb30
    go_wp2_with (first
      | ((with_reducible refine at_slot 26 ?_); (refine arm_want (.agg (acta y).toArray) 26 rfl (by kernel_rfl) (run_op_load _ _ rfl Y 0 rfl (acta y) ((Has.refl _).range Y_6) SY.out) ?_))
      | ((with_reducible refine at_slot 27 ?_); (refine arm_litW 27 rfl (by kernel_rfl) fT [y] (allOk_cons KY.out allOk_nil) (by simp) _ _ rfl rfl (by simp only [List.map_toArray, List.map_cons, List.map_nil]; rfl) ?_); intro G vg Ge hG nG))
    have hat : At kT vg (some ⟨G, 0, none⟩) [y] := At.row fT (allOk_cons KY.out allOk_nil) hG (List.append_nil _).symm
    have nGb := nG.below
    clear hG nG Ge
    have Y_7 : Row vg Y 38 (acta y) := Y_6.old nGb
    have bel_7 : Below w.heap.size w vg := below_step bel_6 bel_6.size nGb
    clear Y_6 bel_6 nGb
    refine (large_any [y] _ 1 _ hat).mono ?_
    rintro e y8 ⟨⟨b2, rfl, _⟩, hB⟩
    have Y_9 : Row y8 Y 38 (acta y) := Y_7.old hB
    have bel_9 : Below w.heap.size w y8 := below_step bel_7 bel_7.size hB
    clear Y_7 bel_7 hB
    clear hat
    cases b2
    · skip
      go_wp2_with fail
      have szT := bel_9.size
      refine (CN.out _ (HKW.out _ bel_9)).mono ?_
      rintro e y10 ⟨⟨B1, m1, rfl, hTT, gBT, gmT⟩, hB⟩
      have Y_11 : Row y10 Y 38 (acta y) := Y_9.old hB
      have bel_11 : Below w.heap.size w y10 := below_step bel_9 bel_9.size hB
      clear Y_9 bel_9 hB
      have geB1 : w.heap.size ≤ B1 := by omega
      have gem1 : w.heap.size ≤ m1 := by omega
      clear szT gBT gmT
      go_wp2_with fail
      have szU := bel_11.size
      have ltTU := hTT.lt; have mlTU := hTT.mlt
      refine (CN.out _ (HKW.out _ bel_11)).mono ?_
      rintro e y12 ⟨⟨B2, m2, rfl, hTU, gBU, gmU⟩, hB⟩
      have Y_13 : Row y12 Y 38 (acta y) := Y_11.old hB
      have T_13 : TrAt y12 B1 m1 (bare) := hTT.old hB
      have bel_13 : Below w.heap.size w y12 := below_step bel_11 bel_11.size hB
      clear Y_11 hTT bel_11 hB
      have geB2 : w.heap.size ≤ B2 := by omega
      have gem2 : w.heap.size ≤ m2 := by omega
      have hB1m2 : B1 ≠ m2 := by omega
      have hm1m2 : m1 ≠ m2 := by omega
      have hB2m1 : B2 ≠ m1 := by omega
      have hm2m1 : m2 ≠ m1 := by omega
      clear ltTU mlTU
      clear szU gBU gmU
      go_wp2_with fail
      try simp only [Act.put]
      have h0 : TaRel w B1 m1 B2 m2 Y y l (.int .i64 0) y12 := ⟨⟨0, by omega, rfl⟩, ⟨bare, good_bare, T_13, hTU⟩, Y_13, bel_13⟩
      clear T_13 hTU Y_13 bel_13 CN CA CLG
      go_loopw [34] (fun i wr => TaRel w B1 m1 B2 m2 Y y l i wr) (fun i _ => l.length - (intOf i).toNat)
      case atStart => exact h0
      case round =>
        clear h0
        obtain ⟨⟨k, hk, rfl⟩, ⟨t, hg, hT, hU⟩, hY, bel⟩ := hrel
        by_cases hlt : k < l.length
        · have hk30 : k < 30 := by have := HL.out; omega
          obtain ⟨x, g, o, hx, kx, hP, hgl, hrx⟩ := HS.out.get hlt
          subst hP
          have RX := Lib.hid (range_block hrx (bel.block g hgl))
          have ik : (k : Int) < (l.length : Int) := by omega
          have KX := Lib.hid kx
          have SX := Lib.hid (sz_act x); have FX := Lib.hid (fitT x); have OX := Lib.hid (acta_one x); have LX := Lib.hid (allT x)
          clear hrx kx hx
          go_wp2_with (first
            | ((with_reducible refine at_slot 36 ?_); (refine arm_want (.pointer (some ⟨g, o + k * 5, none⟩)) 36 rfl (by kernel_rfl) (run_op_index fT _ _ rfl g o _ _ rfl .i64 _ rfl k rfl hlt _) ?_))
            | ((with_reducible refine at_slot 37 ?_); (refine arm_load (o := ⟨some 37, _, _, _, _, _⟩) rfl _ _ rfl g (o + k * 5) rfl (acta x) (RX.out) SX.out ?_))
            | ((with_reducible refine at_slot 8 ?_); (refine arm_alloc (o := ⟨some 8, _, _, _, _, _⟩) rfl _ rfl (acta zt) z_act ?_); intro X v301a Xe hXa nX)
            | ((with_reducible refine arm_store (o := ⟨none, _, _, _, _, _⟩) rfl _ _ _ rfl X 0 rfl (acta x) rfl _ _ hXa FX.out OX.out SX.out ?_); intro v301 hXb oX sX)
            | ((with_reducible refine at_slot 39 ?_); (refine arm_load (o := ⟨some 39, _, _, _, _, _⟩) rfl _ _ rfl X 0 rfl (acta x) ((Has.refl _).range (hXb.congr LX.out)) SX.out ?_)))
          have lX : wr.heap.size ≤ X := by have := Xe.out; omega
          have bX : Below wr.heap.size wr v301 := below_only nX.below oX lX nX.below.size
          have rrX : Row v301 X 38 (acta x) := hXb.congr LX.out
          have geX : w.heap.size ≤ X := Nat.le_trans bel.size lX
          clear hXa hXb nX oX sX Xe lX
          have T_302 : TrAt v301 B1 m1 (t) := hT.old bX
          have U_302 : TrAt v301 B2 m2 (t) := hU.old bX
          have Y_302 : Row v301 Y 38 (acta y) := hY.old bX
          have bel_302 : Below w.heap.size w v301 := below_step bel bel.size bX
          clear hT hU hY bel bX
          refine (do_any B1 m1 t x _ T_302 KX.out).mono ?_
          rintro e y303 ⟨rfl, hT, hO⟩
          have T_304 : TrAt y303 B1 m1 (doT t x) := hT
          have U_304 : TrAt y303 B2 m2 (t) := U_302.only hO hB2m1 hm2m1
          have Y_304 : Row y303 Y 38 (acta y) := Y_302.only hO (Ne.symm (T_302.map.row Y_302))
          have X_304 : Row y303 X 38 (acta x) := rrX.only hO (Ne.symm (T_302.map.row rrX))
          have bel_304 : Below w.heap.size w y303 := below_only bel_302 hO gem1 bel_302.size
          clear T_302 U_302 Y_302 rrX bel_302 hO
          go_wp2_with (first
            | ((with_reducible refine at_slot 42 ?_); (refine arm_load (o := ⟨some 42, _, _, _, _, _⟩) rfl _ _ rfl X 0 rfl (acta x) ((Has.refl _).range X_304) SX.out ?_)))
          refine (do_any B2 m2 t x _ U_304 KX.out).mono ?_
          rintro e y305 ⟨rfl, hT, hO⟩
          have T_306 : TrAt y305 B1 m1 (doT t x) := T_304.only hO hB1m2 hm1m2
          have U_306 : TrAt y305 B2 m2 (doT t x) := hT
          have Y_306 : Row y305 Y 38 (acta y) := Y_304.only hO (Ne.symm (U_304.map.row Y_304))
          have X_306 : Row y305 X 38 (acta x) := X_304.only hO (Ne.symm (U_304.map.row X_304))
          have bel_306 : Below w.heap.size w y305 := below_only bel_304 hO gem2 bel_304.size
          clear T_304 U_304 Y_304 X_304 bel_304 hO
          go_wp2_with fail
          try simp only [Act.put]
          go_roundw
          case rel => exact ⟨⟨k + 1, by omega, by go_num⟩, ⟨_, good_do hg KX.out, T_306, U_306⟩, Y_306, bel_306⟩
          case measure => simp [intOf]; omega
        · obtain rfl : k = l.length := by omega
          have HG := Lib.hid hg
          have HG2 := Lib.hid (good_do hg KY.out)
          clear hg
          go_wp2_with (first
            | ((with_reducible refine at_slot 47 ?_); (refine arm_load (o := ⟨some 47, _, _, _, _, _⟩) rfl _ _ rfl Y 0 rfl (acta y) ((Has.refl _).range hY) SY.out ?_)))
          refine (do_any B1 m1 t y _ hT KY.out).mono ?_
          rintro e y401 ⟨rfl, hT2, hO⟩
          have T_402 : TrAt y401 B1 m1 (doT t y) := hT2
          have U_402 : TrAt y401 B2 m2 (t) := hU.only hO hB2m1 hm2m1
          have Y_402 : Row y401 Y 38 (acta y) := hY.only hO (Ne.symm (hT.map.row hY))
          have bel_402 : Below w.heap.size w y401 := below_only bel hO gem1 bel.size
          clear hT hU hY bel hO
          have HDS : Hid (¬ ((y.doo = 0 ∧ doE y = 0) ∨ doB t y = true) → doT t y = t) := Lib.hid (do_same y)
          generalize doE y = e0 at HDS ⊢
          generalize doB t y = b0 at HDS ⊢
          go_wp2_with fail
          try simp only [Act.put]
          have h0 : TbRel w B1 m1 B2 m2 Y y t (.int .i64 0) y401 := ⟨⟨0, by omega, rfl⟩, T_402, U_402, Y_402, bel_402⟩
          clear T_402 U_402 Y_402 bel_402 hlt hk hT2
          go_loopw [51] (fun i wr => TbRel w B1 m1 B2 m2 Y y t i wr) (fun i _ => 16 - (intOf i).toNat)
          case atStart => exact h0
          case round =>
            clear h0
            obtain ⟨⟨k, hk, rfl⟩, hT, hU, hY, bel⟩ := hrel
            by_cases hlt : k < 16
            · have ik : (k : Int) < 16 := by omega
              have HP : Hid (Is64 (k : Int)) := Lib.hid (by simp [Is64, Lit.wf, IntKind.min, IntKind.max, IntKind.signed, IntKind.bits]; omega)
              have HOT : Hid ((k : Int) ≠ y.pl → doT t y k = t k) := Lib.hid fun h => do_other y h
              have CG1 : Hid (∀ w0, TrAt w0 B1 m1 (doT t y) → Calls Tryd.prog 15 #[.pointer (some ⟨B1, 0, none⟩), .int .i64 (k : Int)] w0 fun e w' => e = .returned (.tuple #[.agg (acs ((doT t y k).getD za)).toArray, .bool (doT t y k).isSome]) ∧ Below w0.heap.size w0 w') := Lib.hid fun w0 h0 => (get_any B1 m1 _ _ w0 h0 HP.out).mono fun e w' h => ⟨by have h1 := h.ret; rw [atI_nat] at h1; exact h1, h.bel⟩
              have CG2 : Hid (∀ w0, TrAt w0 B2 m2 t → Calls Tryd.prog 15 #[.pointer (some ⟨B2, 0, none⟩), .int .i64 (k : Int)] w0 fun e w' => e = .returned (.tuple #[.agg (acs ((t k).getD za)).toArray, .bool (t k).isSome]) ∧ Below w0.heap.size w0 w') := Lib.hid fun w0 h0 => (get_any B2 m2 _ _ w0 h0 HP.out).mono fun e w' h => ⟨by have h1 := h.ret; rw [atI_nat] at h1; exact h1, h.bel⟩
              generalize doT t y k = o1 at CG1 HOT
              generalize t k = o2 at CG2 HOT
              have KA1 := Lib.hid (sz_acc (o1.getD za)); have OA1 := Lib.hid (acs_one (o1.getD za)); have LA1 := Lib.hid (allA (o1.getD za)); have FA1 := Lib.hid (fitA (o1.getD za))
              have KA2 := Lib.hid (sz_acc (o2.getD za)); have OA2 := Lib.hid (acs_one (o2.getD za)); have LA2 := Lib.hid (allA (o2.getD za)); have FA2 := Lib.hid (fitA (o2.getD za))
              obtain ⟨p1, hp1⟩ : ∃ p1 : Acct, p1 = o1.getD za := ⟨_, rfl⟩
              obtain ⟨p2, hp2⟩ : ∃ p2 : Acct, p2 = o2.getD za := ⟨_, rfl⟩
              obtain ⟨q1, hq1⟩ : ∃ q1 : Bool, q1 = o1.isSome := ⟨_, rfl⟩
              obtain ⟨q2, hq2⟩ : ∃ q2 : Bool, q2 = o2.isSome := ⟨_, rfl⟩
              have HEQ : Hid ((k : Int) ≠ y.pl → p1 = p2 ∧ q1 = q2) := Lib.hid fun h => by rw [hp1, hp2, hq1, hq2, HOT.out h]; exact ⟨rfl, rfl⟩
              rw [← hp1, ← hq1] at CG1
              rw [← hp2, ← hq2] at CG2
              rw [← hp1] at KA1 OA1 LA1 FA1
              rw [← hp2] at KA2 OA2 LA2 FA2
              clear hp1 hp2 hq1 hq2 HOT
              go_wp2_with fail
              refine (CG1.out _ hT).mono ?_
              rintro e y501 ⟨rfl, hB⟩
              have T_502 : TrAt y501 B1 m1 (doT t y) := hT.old hB
              have U_502 : TrAt y501 B2 m2 (t) := hU.old hB
              have Y_502 : Row y501 Y 38 (acta y) := hY.old hB
              have bel_502 : Below w.heap.size w y501 := below_step bel bel.size hB
              clear hT hU hY bel hB
              go_wp2_with (first
                | ((with_reducible refine at_slot 12 ?_); (refine arm_alloc (o := ⟨some 12, _, _, _, _, _⟩) rfl _ rfl (acs za) z_acc ?_); intro A1 v503a A1e hA1a nA1)
                | ((with_reducible refine arm_store (o := ⟨none, _, _, _, _, _⟩) rfl _ _ _ rfl A1 0 rfl (acs p1) rfl _ _ hA1a FA1.out OA1.out KA1.out ?_); intro v503 hA1b oA1 sA1))
              have lA1 : y501.heap.size ≤ A1 := by have := A1e.out; omega
              have bA1 : Below y501.heap.size y501 v503 := below_only nA1.below oA1 lA1 nA1.below.size
              have rrA1 : Row v503 A1 36 (acs p1) := hA1b.congr LA1.out
              have geA1 : w.heap.size ≤ A1 := Nat.le_trans bel_502.size lA1
              clear hA1a hA1b nA1 oA1 sA1 A1e lA1
              have T_504 : TrAt v503 B1 m1 (doT t y) := T_502.old bA1
              have U_504 : TrAt v503 B2 m2 (t) := U_502.old bA1
              have Y_504 : Row v503 Y 38 (acta y) := Y_502.old bA1
              have bel_504 : Below w.heap.size w v503 := below_step bel_502 bel_502.size bA1
              clear T_502 U_502 Y_502 bel_502 bA1
              refine (CG2.out _ U_504).mono ?_
              rintro e y505 ⟨rfl, hB⟩
              have T_506 : TrAt y505 B1 m1 (doT t y) := T_504.old hB
              have U_506 : TrAt y505 B2 m2 (t) := U_504.old hB
              have Y_506 : Row y505 Y 38 (acta y) := Y_504.old hB
              have A1_506 : Row y505 A1 36 (acs p1) := rrA1.old hB
              have bel_506 : Below w.heap.size w y505 := below_step bel_504 bel_504.size hB
              clear T_504 U_504 Y_504 rrA1 bel_504 hB
              by_cases hpl : (k : Int) = y.pl
              · skip
                go_wp2_with (first
                  | ((with_reducible refine at_slot 14 ?_); (refine arm_alloc (o := ⟨some 14, _, _, _, _, _⟩) rfl _ rfl (acs za) z_acc ?_); intro A2 v507a A2e hA2a nA2)
                  | ((with_reducible refine arm_store (o := ⟨none, _, _, _, _, _⟩) rfl _ _ _ rfl A2 0 rfl (acs p2) rfl _ _ hA2a FA2.out OA2.out KA2.out ?_); intro v507 hA2b oA2 sA2)
                  | ((with_reducible refine at_slot 68 ?_); (refine arm_want (.int .i64 y.pl) 68 rfl (by kernel_rfl) (run_op_load1 _ _ rfl (.int .i64) (by kernel_rfl) rfl ⟨Y, 1, none⟩ rfl _ (((Y_506.old nA2.below).only oA2 (by have := A2e.out; have := Y_506.lt; omega)).cell Y1.out)) ?_))
                  | ((with_reducible refine at_slot 69 ?_); (refine arm_want (.bool false) 69 rfl (by kernel_rfl) (cmp_neq _ _ .i64 (by kernel_rfl) _ _ rfl .i64 ((k : Int)) (y.pl) rfl rfl false (decide_eq_true hpl) _) ?_)))
                have lA2 : y505.heap.size ≤ A2 := by have := A2e.out; omega
                have bA2 : Below y505.heap.size y505 v507 := below_only nA2.below oA2 lA2 nA2.below.size
                have rrA2 : Row v507 A2 36 (acs p2) := hA2b.congr LA2.out
                have geA2 : w.heap.size ≤ A2 := Nat.le_trans bel_506.size lA2
                clear hA2a hA2b nA2 oA2 sA2 A2e lA2
                have T_508 : TrAt v507 B1 m1 (doT t y) := T_506.old bA2
                have U_508 : TrAt v507 B2 m2 (t) := U_506.old bA2
                have Y_508 : Row v507 Y 38 (acta y) := Y_506.old bA2
                have A1_508 : Row v507 A1 36 (acs p1) := A1_506.old bA2
                have bel_508 : Below w.heap.size w v507 := below_step bel_506 bel_506.size bA2
                clear T_506 U_506 Y_506 A1_506 bel_506 bA2
                try simp only [Act.put]
                go_roundw
                case rel => exact ⟨⟨k + 1, by omega, by go_num⟩, T_508, U_508, Y_508, bel_508⟩
                case measure => simp [intOf]; omega
              · obtain ⟨he1, he2⟩ := HEQ.out hpl
                subst he1 he2
                go_wp2_with (first
                  | ((with_reducible refine at_slot 14 ?_); (refine arm_alloc (o := ⟨some 14, _, _, _, _, _⟩) rfl _ rfl (acs za) z_acc ?_); intro A2 v507a A2e hA2a nA2)
                  | ((with_reducible refine arm_store (o := ⟨none, _, _, _, _, _⟩) rfl _ _ _ rfl A2 0 rfl (acs p1) rfl _ _ hA2a FA1.out OA1.out KA1.out ?_); intro v507 hA2b oA2 sA2)
                  | ((with_reducible refine at_slot 68 ?_); (refine arm_want (.int .i64 y.pl) 68 rfl (by kernel_rfl) (run_op_load1 _ _ rfl (.int .i64) (by kernel_rfl) rfl ⟨Y, 1, none⟩ rfl _ (((Y_506.old nA2.below).only oA2 (by have := A2e.out; have := Y_506.lt; omega)).cell Y1.out)) ?_))
                  | ((with_reducible refine at_slot 69 ?_); (refine arm_want (.bool true) 69 rfl (by kernel_rfl) (cmp_neq _ _ .i64 (by kernel_rfl) _ _ rfl .i64 ((k : Int)) (y.pl) rfl rfl true (decide_eq_false hpl) _) ?_))
                  | ((with_reducible refine at_slot 71 ?_); (refine arm_want (.agg (acs p1).toArray) 71 rfl (by kernel_rfl) (run_op_load _ _ rfl A1 0 rfl (acs p1) ((Has.refl _).range ((A1_506.old nA2.below).only oA2 (by have := A2e.out; have := A1_506.lt; omega))) KA1.out) ?_))
                  | ((with_reducible refine at_slot 72 ?_); (refine arm_want (.agg (acs p1).toArray) 72 rfl (by kernel_rfl) (run_op_load _ _ rfl A2 0 rfl (acs p1) ((Has.refl _).range (hA2b.congr LA1.out)) KA1.out) ?_))
                  | ((with_reducible refine at_slot 73 ?_); (refine arm_want (.bool false) 73 rfl (by kernel_rfl) (run_op_neqA _ _ _ rfl p1 p1 rfl rfl true ⟨fun _ => rfl, fun _ => rfl⟩ _) ?_))
                  | ((with_reducible refine at_slot 77 ?_); (refine arm_want (.bool false) 77 rfl (by kernel_rfl) (run_op_neqBB _ _ _ rfl q1 q1 rfl rfl false (by cases q1 <;> rfl) _) ?_)))
                have lA2 : y505.heap.size ≤ A2 := by have := A2e.out; omega
                have bA2 : Below y505.heap.size y505 v507 := below_only nA2.below oA2 lA2 nA2.below.size
                have rrA2 : Row v507 A2 36 (acs p1) := hA2b.congr LA1.out
                have geA2 : w.heap.size ≤ A2 := Nat.le_trans bel_506.size lA2
                clear hA2a hA2b nA2 oA2 sA2 A2e lA2
                have T_508 : TrAt v507 B1 m1 (doT t y) := T_506.old bA2
                have U_508 : TrAt v507 B2 m2 (t) := U_506.old bA2
                have Y_508 : Row v507 Y 38 (acta y) := Y_506.old bA2
                have A1_508 : Row v507 A1 36 (acs p1) := A1_506.old bA2
                have bel_508 : Below w.heap.size w v507 := below_step bel_506 bel_506.size bA2
                clear T_506 U_506 Y_506 A1_506 bel_506 bA2
                try simp only [Act.put]
                go_roundw
                case rel => exact ⟨⟨k + 1, by omega, by go_num⟩, T_508, U_508, Y_508, bel_508⟩
                case measure => simp [intOf]; omega
            · obtain rfl : k = 16 := by omega
              have HPD := Lib.hid (path_do t y)
              have CP1 : Hid (∀ w0, TrAt w0 B1 m1 (doT t y) → w0.rangeAt 0 0 (u32s ks) → Calls Tryd.prog 17 #[.pointer (some ⟨B1, 0, none⟩), .int .i64 y.pl] w0 fun e w' => e = .returned (.tuple #[.agg (dgC (pathI t y.pl)).toArray, .int .i64 (pathE y.pl : Int)]) ∧ Below w0.heap.size w0 w') := Lib.hid fun w0 h0 h => (path_any B1 m1 _ _ w0 h0 HG2.out h).mono fun e w' h => ⟨by have h1 := h.ret; rw [HPD.out] at h1; exact h1, h.bel⟩
              have CP2 : Hid (∀ w0, TrAt w0 B2 m2 t → w0.rangeAt 0 0 (u32s ks) → Calls Tryd.prog 17 #[.pointer (some ⟨B2, 0, none⟩), .int .i64 y.pl] w0 fun e w' => e = .returned (.tuple #[.agg (dgC (pathI t y.pl)).toArray, .int .i64 (pathE y.pl : Int)]) ∧ Below w0.heap.size w0 w') := Lib.hid fun w0 h0 h => (path_any B2 m2 _ _ w0 h0 HG.out h).mono fun e w' h => ⟨h.ret, h.bel⟩
              have PO := Lib.hid (pathI_ok t y.pl); have PL := Lib.hid (pathI_len t y.pl)
              generalize pathI t y.pl = pp at CP1 CP2 PO PL
              generalize pathE y.pl = pe at CP1 CP2
              have KP := Lib.hid (sz_path PO.out PL.out); have PF := Lib.hid (fitP PO.out PL.out); have PA := Lib.hid (allP PO.out PL.out)
              clear HPD
              have hcy := hY.cell Y1.out
              go_wp2_with fail
              clear hcy
              refine (CP1.out _ hT (HKW.out _ bel)).mono ?_
              rintro e y701 ⟨rfl, hB⟩
              have T_702 : TrAt y701 B1 m1 (doT t y) := hT.old hB
              have U_702 : TrAt y701 B2 m2 (t) := hU.old hB
              have Y_702 : Row y701 Y 38 (acta y) := hY.old hB
              have bel_702 : Below w.heap.size w y701 := below_step bel bel.size hB
              clear hT hU hY bel hB
              go_wp2_with (first
                | ((with_reducible refine at_slot 16 ?_); (refine arm_alloc (o := ⟨some 16, _, _, _, _, _⟩) rfl _ rfl (dgC z4) z_path ?_); intro P1 v703a P1e hP1a nP1)
                | ((with_reducible refine arm_store (o := ⟨none, _, _, _, _, _⟩) rfl _ _ _ rfl P1 0 rfl (dgC pp) rfl _ _ hP1a PF.out (dgC_ones _) KP.out ?_); intro v703 hP1b oP1 sP1)
                | ((with_reducible refine at_slot 91 ?_); (refine arm_want (.int .i64 y.pl) 91 rfl (by kernel_rfl) (run_op_load1 _ _ rfl (.int .i64) (by kernel_rfl) rfl ⟨Y, 1, none⟩ rfl _ (((Y_702.old nP1.below).only oP1 (by have := P1e.out; have := Y_702.lt; omega)).cell Y1.out)) ?_)))
              have lP1 : y701.heap.size ≤ P1 := by have := P1e.out; omega
              have bP1 : Below y701.heap.size y701 v703 := below_only nP1.below oP1 lP1 nP1.below.size
              have rrP1 : Row v703 P1 52 (dgC pp) := hP1b.congr PA.out
              have geP1 : w.heap.size ≤ P1 := Nat.le_trans bel_702.size lP1
              clear hP1a hP1b nP1 oP1 sP1 P1e lP1
              have T_704 : TrAt v703 B1 m1 (doT t y) := T_702.old bP1
              have U_704 : TrAt v703 B2 m2 (t) := U_702.old bP1
              have Y_704 : Row v703 Y 38 (acta y) := Y_702.old bP1
              have bel_704 : Below w.heap.size w v703 := below_step bel_702 bel_702.size bP1
              clear T_702 U_702 Y_702 bel_702 bP1
              refine (CP2.out _ U_704 (HKW.out _ bel_704)).mono ?_
              rintro e y705 ⟨rfl, hB⟩
              have T_706 : TrAt y705 B1 m1 (doT t y) := T_704.old hB
              have U_706 : TrAt y705 B2 m2 (t) := U_704.old hB
              have Y_706 : Row y705 Y 38 (acta y) := Y_704.old hB
              have P1_706 : Row y705 P1 52 (dgC pp) := rrP1.old hB
              have bel_706 : Below w.heap.size w y705 := below_step bel_704 bel_704.size hB
              clear T_704 U_704 Y_704 rrP1 bel_704 hB
              by_cases hd0 : y.doo = 0
              · by_cases he0 : e0 = 0
                · skip
                  go_wp2_with (first
                    | ((with_reducible refine at_slot 18 ?_); (refine arm_alloc (o := ⟨some 18, _, _, _, _, _⟩) rfl _ rfl (dgC z4) z_path ?_); intro P2 v707a P2e hP2a nP2)
                    | ((with_reducible refine arm_store (o := ⟨none, _, _, _, _, _⟩) rfl _ _ _ rfl P2 0 rfl (dgC pp) rfl _ _ hP2a PF.out (dgC_ones _) KP.out ?_); intro v707 hP2b oP2 sP2)
                    | ((with_reducible refine at_slot 95 ?_); (refine arm_load (o := ⟨some 95, _, _, _, _, _⟩) rfl _ _ rfl P1 0 rfl (dgC pp) ((Has.refl _).range ((P1_706.old nP2.below).only oP2 (by have := P2e.out; have := P1_706.lt; omega))) KP.out ?_))
                    | ((with_reducible refine at_slot 96 ?_); (refine arm_load (o := ⟨some 96, _, _, _, _, _⟩) rfl _ _ rfl P2 0 rfl (dgC pp) ((Has.refl _).range (hP2b.congr PA.out)) KP.out ?_))
                    | ((with_reducible refine at_slot 97 ?_); (refine arm_want (.bool false) 97 rfl (by kernel_rfl) (run_op_neqP PO.out PO.out PL.out PL.out 52 (by kernel_rfl) (by kernel_rfl) _ _ _ rfl rfl rfl true ⟨fun _ => rfl, fun _ => rfl⟩ _) ?_))
                    | ((with_reducible refine at_slot 101 ?_); (refine arm_want (.bool false) 101 rfl (by kernel_rfl) (cmp_neq _ _ .i64 (by kernel_rfl) _ _ rfl .i64 ((pe : Int)) ((pe : Int)) rfl rfl false (decide_eq_true rfl) _) ?_))
                    | ((with_reducible refine at_slot 104 ?_); (refine arm_want (.int .i64 y.doo) 104 rfl (by kernel_rfl) (run_op_load1 _ _ rfl (.int .i64) (by kernel_rfl) rfl ⟨Y, 0, none⟩ rfl _ (((Y_706.old nP2.below).only oP2 (by have := P2e.out; have := Y_706.lt; omega)).cell Y0.out)) ?_))
                    | ((with_reducible refine at_slot 105 ?_); (refine arm_want (.bool true) 105 rfl (by kernel_rfl) (cmp_eql _ _ .i64 (by kernel_rfl) _ _ rfl .i64 (y.doo) (0) rfl rfl true (decide_eq_true hd0) _) ?_))
                    | ((with_reducible refine at_slot 108 ?_); (refine arm_want (.bool true) 108 rfl (by kernel_rfl) (cmp_eql _ _ .i64 (by kernel_rfl) _ _ rfl .i64 ((e0 : Int)) (0) rfl rfl true (decide_eq_true (by omega)) _) ?_)))
                  have lP2 : y705.heap.size ≤ P2 := by have := P2e.out; omega
                  have bP2 : Below y705.heap.size y705 v707 := below_only nP2.below oP2 lP2 nP2.below.size
                  have rrP2 : Row v707 P2 52 (dgC pp) := hP2b.congr PA.out
                  have geP2 : w.heap.size ≤ P2 := Nat.le_trans bel_706.size lP2
                  clear hP2a hP2b nP2 oP2 sP2 P2e lP2
                  have T_708 : TrAt v707 B1 m1 (doT t y) := T_706.old bP2
                  have U_708 : TrAt v707 B2 m2 (t) := U_706.old bP2
                  have Y_708 : Row v707 Y 38 (acta y) := Y_706.old bP2
                  have P1_708 : Row v707 P1 52 (dgC pp) := P1_706.old bP2
                  have bel_708 : Below w.heap.size w v707 := below_step bel_706 bel_706.size bP2
                  clear T_706 U_706 Y_706 P1_706 bel_706 bP2
                  go_ret
                  exact ⟨rfl, bel_708⟩
                · cases b0
                  · have HSAME : Hid (doT t y = t) := Lib.hid (HDS.out fun h => h.elim (fun h => he0 h.2) (fun h => by cases h))
                    go_wp2_with (first
                      | ((with_reducible refine at_slot 18 ?_); (refine arm_alloc (o := ⟨some 18, _, _, _, _, _⟩) rfl _ rfl (dgC z4) z_path ?_); intro P2 v707a P2e hP2a nP2)
                      | ((with_reducible refine arm_store (o := ⟨none, _, _, _, _, _⟩) rfl _ _ _ rfl P2 0 rfl (dgC pp) rfl _ _ hP2a PF.out (dgC_ones _) KP.out ?_); intro v707 hP2b oP2 sP2)
                      | ((with_reducible refine at_slot 95 ?_); (refine arm_load (o := ⟨some 95, _, _, _, _, _⟩) rfl _ _ rfl P1 0 rfl (dgC pp) ((Has.refl _).range ((P1_706.old nP2.below).only oP2 (by have := P2e.out; have := P1_706.lt; omega))) KP.out ?_))
                      | ((with_reducible refine at_slot 96 ?_); (refine arm_load (o := ⟨some 96, _, _, _, _, _⟩) rfl _ _ rfl P2 0 rfl (dgC pp) ((Has.refl _).range (hP2b.congr PA.out)) KP.out ?_))
                      | ((with_reducible refine at_slot 97 ?_); (refine arm_want (.bool false) 97 rfl (by kernel_rfl) (run_op_neqP PO.out PO.out PL.out PL.out 52 (by kernel_rfl) (by kernel_rfl) _ _ _ rfl rfl rfl true ⟨fun _ => rfl, fun _ => rfl⟩ _) ?_))
                      | ((with_reducible refine at_slot 101 ?_); (refine arm_want (.bool false) 101 rfl (by kernel_rfl) (cmp_neq _ _ .i64 (by kernel_rfl) _ _ rfl .i64 ((pe : Int)) ((pe : Int)) rfl rfl false (decide_eq_true rfl) _) ?_))
                      | ((with_reducible refine at_slot 104 ?_); (refine arm_want (.int .i64 y.doo) 104 rfl (by kernel_rfl) (run_op_load1 _ _ rfl (.int .i64) (by kernel_rfl) rfl ⟨Y, 0, none⟩ rfl _ (((Y_706.old nP2.below).only oP2 (by have := P2e.out; have := Y_706.lt; omega)).cell Y0.out)) ?_))
                      | ((with_reducible refine at_slot 105 ?_); (refine arm_want (.bool true) 105 rfl (by kernel_rfl) (cmp_eql _ _ .i64 (by kernel_rfl) _ _ rfl .i64 (y.doo) (0) rfl rfl true (decide_eq_true hd0) _) ?_))
                      | ((with_reducible refine at_slot 108 ?_); (refine arm_want (.bool false) 108 rfl (by kernel_rfl) (cmp_eql _ _ .i64 (by kernel_rfl) _ _ rfl .i64 ((e0 : Int)) (0) rfl rfl false (decide_eq_false (by omega)) _) ?_)))
                    have lP2 : y705.heap.size ≤ P2 := by have := P2e.out; omega
                    have bP2 : Below y705.heap.size y705 v707 := below_only nP2.below oP2 lP2 nP2.below.size
                    have rrP2 : Row v707 P2 52 (dgC pp) := hP2b.congr PA.out
                    have geP2 : w.heap.size ≤ P2 := Nat.le_trans bel_706.size lP2
                    clear hP2a hP2b nP2 oP2 sP2 P2e lP2
                    have T_708 : TrAt v707 B1 m1 (doT t y) := T_706.old bP2
                    have U_708 : TrAt v707 B2 m2 (t) := U_706.old bP2
                    have Y_708 : Row v707 Y 38 (acta y) := Y_706.old bP2
                    have P1_708 : Row v707 P1 52 (dgC pp) := P1_706.old bP2
                    have bel_708 : Below w.heap.size w v707 := below_step bel_706 bel_706.size bP2
                    clear T_706 U_706 Y_706 P1_706 bel_706 bP2
                    have CR1 : Hid (∀ w0, TrAt w0 B1 m1 (doT t y) → w0.rangeAt 0 0 (u32s ks) → Calls Tryd.prog 19 #[.pointer (some ⟨B1, 0, none⟩)] w0 fun e w' => e = .returned (.agg (u8s (rootD t)).toArray) ∧ Below w0.heap.size w0 w') := Lib.hid fun w0 h0 h => by
                      have h1 := root_any B1 m1 (doT t y) w0 h0 HG2.out h
                      rw [show rootD (doT t y) = rootD t by rw [HSAME.out]] at h1
                      exact h1
                    have CR2 : Hid (∀ w0, TrAt w0 B2 m2 t → w0.rangeAt 0 0 (u32s ks) → Calls Tryd.prog 19 #[.pointer (some ⟨B2, 0, none⟩)] w0 fun e w' => e = .returned (.agg (u8s (rootD t)).toArray) ∧ Below w0.heap.size w0 w') := Lib.hid fun w0 h0 h => root_any B2 m2 t w0 h0 HG.out h
                    have KD := Lib.hid (root_ok t)
                    generalize rootD t = dd at KD CR1 CR2
                    refine (CR1.out _ T_708 (HKW.out _ bel_708)).mono ?_
                    rintro e y709 ⟨rfl, hB⟩
                    have T_710 : TrAt y709 B1 m1 (doT t y) := T_708.old hB
                    have U_710 : TrAt y709 B2 m2 (t) := U_708.old hB
                    have Y_710 : Row y709 Y 38 (acta y) := Y_708.old hB
                    have P1_710 : Row y709 P1 52 (dgC pp) := P1_708.old hB
                    have P2_710 : Row y709 P2 52 (dgC pp) := rrP2.old hB
                    have bel_710 : Below w.heap.size w y709 := below_step bel_708 bel_708.size hB
                    clear T_708 U_708 Y_708 P1_708 rrP2 bel_708 hB
                    go_wp2_with fail
                    refine (CR2.out _ U_710 (HKW.out _ bel_710)).mono ?_
                    rintro e y711 ⟨rfl, hB⟩
                    have T_712 : TrAt y711 B1 m1 (doT t y) := T_710.old hB
                    have U_712 : TrAt y711 B2 m2 (t) := U_710.old hB
                    have Y_712 : Row y711 Y 38 (acta y) := Y_710.old hB
                    have P1_712 : Row y711 P1 52 (dgC pp) := P1_710.old hB
                    have P2_712 : Row y711 P2 52 (dgC pp) := P2_710.old hB
                    have bel_712 : Below w.heap.size w y711 := below_step bel_710 bel_710.size hB
                    clear T_710 U_710 Y_710 P1_710 P2_710 bel_710 hB
                    go_wp2_with (first
                      | ((with_reducible refine at_slot 119 ?_); (refine arm_want (.bool true) 119 rfl (by kernel_rfl) (run_op_eqlD KD.out KD.out _ _ _ rfl rfl rfl true ⟨fun _ => rfl, fun _ => rfl⟩ _) ?_)))
                    go_ret
                    exact ⟨rfl, bel_712⟩
                  · skip
                    go_wp2_with (first
                      | ((with_reducible refine at_slot 18 ?_); (refine arm_alloc (o := ⟨some 18, _, _, _, _, _⟩) rfl _ rfl (dgC z4) z_path ?_); intro P2 v707a P2e hP2a nP2)
                      | ((with_reducible refine arm_store (o := ⟨none, _, _, _, _, _⟩) rfl _ _ _ rfl P2 0 rfl (dgC pp) rfl _ _ hP2a PF.out (dgC_ones _) KP.out ?_); intro v707 hP2b oP2 sP2)
                      | ((with_reducible refine at_slot 95 ?_); (refine arm_load (o := ⟨some 95, _, _, _, _, _⟩) rfl _ _ rfl P1 0 rfl (dgC pp) ((Has.refl _).range ((P1_706.old nP2.below).only oP2 (by have := P2e.out; have := P1_706.lt; omega))) KP.out ?_))
                      | ((with_reducible refine at_slot 96 ?_); (refine arm_load (o := ⟨some 96, _, _, _, _, _⟩) rfl _ _ rfl P2 0 rfl (dgC pp) ((Has.refl _).range (hP2b.congr PA.out)) KP.out ?_))
                      | ((with_reducible refine at_slot 97 ?_); (refine arm_want (.bool false) 97 rfl (by kernel_rfl) (run_op_neqP PO.out PO.out PL.out PL.out 52 (by kernel_rfl) (by kernel_rfl) _ _ _ rfl rfl rfl true ⟨fun _ => rfl, fun _ => rfl⟩ _) ?_))
                      | ((with_reducible refine at_slot 101 ?_); (refine arm_want (.bool false) 101 rfl (by kernel_rfl) (cmp_neq _ _ .i64 (by kernel_rfl) _ _ rfl .i64 ((pe : Int)) ((pe : Int)) rfl rfl false (decide_eq_true rfl) _) ?_))
                      | ((with_reducible refine at_slot 104 ?_); (refine arm_want (.int .i64 y.doo) 104 rfl (by kernel_rfl) (run_op_load1 _ _ rfl (.int .i64) (by kernel_rfl) rfl ⟨Y, 0, none⟩ rfl _ (((Y_706.old nP2.below).only oP2 (by have := P2e.out; have := Y_706.lt; omega)).cell Y0.out)) ?_))
                      | ((with_reducible refine at_slot 105 ?_); (refine arm_want (.bool true) 105 rfl (by kernel_rfl) (cmp_eql _ _ .i64 (by kernel_rfl) _ _ rfl .i64 (y.doo) (0) rfl rfl true (decide_eq_true hd0) _) ?_))
                      | ((with_reducible refine at_slot 108 ?_); (refine arm_want (.bool false) 108 rfl (by kernel_rfl) (cmp_eql _ _ .i64 (by kernel_rfl) _ _ rfl .i64 ((e0 : Int)) (0) rfl rfl false (decide_eq_false (by omega)) _) ?_)))
                    have lP2 : y705.heap.size ≤ P2 := by have := P2e.out; omega
                    have bP2 : Below y705.heap.size y705 v707 := below_only nP2.below oP2 lP2 nP2.below.size
                    have rrP2 : Row v707 P2 52 (dgC pp) := hP2b.congr PA.out
                    have geP2 : w.heap.size ≤ P2 := Nat.le_trans bel_706.size lP2
                    clear hP2a hP2b nP2 oP2 sP2 P2e lP2
                    have T_708 : TrAt v707 B1 m1 (doT t y) := T_706.old bP2
                    have U_708 : TrAt v707 B2 m2 (t) := U_706.old bP2
                    have Y_708 : Row v707 Y 38 (acta y) := Y_706.old bP2
                    have P1_708 : Row v707 P1 52 (dgC pp) := P1_706.old bP2
                    have bel_708 : Below w.heap.size w v707 := below_step bel_706 bel_706.size bP2
                    clear T_706 U_706 Y_706 P1_706 bel_706 bP2
                    go_ret
                    exact ⟨rfl, bel_708⟩
              · cases b0
                · have HSAME : Hid (doT t y = t) := Lib.hid (HDS.out fun h => h.elim (fun h => hd0 h.1) (fun h => by cases h))
                  go_wp2_with (first
                    | ((with_reducible refine at_slot 18 ?_); (refine arm_alloc (o := ⟨some 18, _, _, _, _, _⟩) rfl _ rfl (dgC z4) z_path ?_); intro P2 v707a P2e hP2a nP2)
                    | ((with_reducible refine arm_store (o := ⟨none, _, _, _, _, _⟩) rfl _ _ _ rfl P2 0 rfl (dgC pp) rfl _ _ hP2a PF.out (dgC_ones _) KP.out ?_); intro v707 hP2b oP2 sP2)
                    | ((with_reducible refine at_slot 95 ?_); (refine arm_load (o := ⟨some 95, _, _, _, _, _⟩) rfl _ _ rfl P1 0 rfl (dgC pp) ((Has.refl _).range ((P1_706.old nP2.below).only oP2 (by have := P2e.out; have := P1_706.lt; omega))) KP.out ?_))
                    | ((with_reducible refine at_slot 96 ?_); (refine arm_load (o := ⟨some 96, _, _, _, _, _⟩) rfl _ _ rfl P2 0 rfl (dgC pp) ((Has.refl _).range (hP2b.congr PA.out)) KP.out ?_))
                    | ((with_reducible refine at_slot 97 ?_); (refine arm_want (.bool false) 97 rfl (by kernel_rfl) (run_op_neqP PO.out PO.out PL.out PL.out 52 (by kernel_rfl) (by kernel_rfl) _ _ _ rfl rfl rfl true ⟨fun _ => rfl, fun _ => rfl⟩ _) ?_))
                    | ((with_reducible refine at_slot 101 ?_); (refine arm_want (.bool false) 101 rfl (by kernel_rfl) (cmp_neq _ _ .i64 (by kernel_rfl) _ _ rfl .i64 ((pe : Int)) ((pe : Int)) rfl rfl false (decide_eq_true rfl) _) ?_))
                    | ((with_reducible refine at_slot 104 ?_); (refine arm_want (.int .i64 y.doo) 104 rfl (by kernel_rfl) (run_op_load1 _ _ rfl (.int .i64) (by kernel_rfl) rfl ⟨Y, 0, none⟩ rfl _ (((Y_706.old nP2.below).only oP2 (by have := P2e.out; have := Y_706.lt; omega)).cell Y0.out)) ?_))
                    | ((with_reducible refine at_slot 105 ?_); (refine arm_want (.bool false) 105 rfl (by kernel_rfl) (cmp_eql _ _ .i64 (by kernel_rfl) _ _ rfl .i64 (y.doo) (0) rfl rfl false (decide_eq_false hd0) _) ?_)))
                  have lP2 : y705.heap.size ≤ P2 := by have := P2e.out; omega
                  have bP2 : Below y705.heap.size y705 v707 := below_only nP2.below oP2 lP2 nP2.below.size
                  have rrP2 : Row v707 P2 52 (dgC pp) := hP2b.congr PA.out
                  have geP2 : w.heap.size ≤ P2 := Nat.le_trans bel_706.size lP2
                  clear hP2a hP2b nP2 oP2 sP2 P2e lP2
                  have T_708 : TrAt v707 B1 m1 (doT t y) := T_706.old bP2
                  have U_708 : TrAt v707 B2 m2 (t) := U_706.old bP2
                  have Y_708 : Row v707 Y 38 (acta y) := Y_706.old bP2
                  have P1_708 : Row v707 P1 52 (dgC pp) := P1_706.old bP2
                  have bel_708 : Below w.heap.size w v707 := below_step bel_706 bel_706.size bP2
                  clear T_706 U_706 Y_706 P1_706 bel_706 bP2
                  have CR1 : Hid (∀ w0, TrAt w0 B1 m1 (doT t y) → w0.rangeAt 0 0 (u32s ks) → Calls Tryd.prog 19 #[.pointer (some ⟨B1, 0, none⟩)] w0 fun e w' => e = .returned (.agg (u8s (rootD t)).toArray) ∧ Below w0.heap.size w0 w') := Lib.hid fun w0 h0 h => by
                    have h1 := root_any B1 m1 (doT t y) w0 h0 HG2.out h
                    rw [show rootD (doT t y) = rootD t by rw [HSAME.out]] at h1
                    exact h1
                  have CR2 : Hid (∀ w0, TrAt w0 B2 m2 t → w0.rangeAt 0 0 (u32s ks) → Calls Tryd.prog 19 #[.pointer (some ⟨B2, 0, none⟩)] w0 fun e w' => e = .returned (.agg (u8s (rootD t)).toArray) ∧ Below w0.heap.size w0 w') := Lib.hid fun w0 h0 h => root_any B2 m2 t w0 h0 HG.out h
                  have KD := Lib.hid (root_ok t)
                  generalize rootD t = dd at KD CR1 CR2
                  refine (CR1.out _ T_708 (HKW.out _ bel_708)).mono ?_
                  rintro e y709 ⟨rfl, hB⟩
                  have T_710 : TrAt y709 B1 m1 (doT t y) := T_708.old hB
                  have U_710 : TrAt y709 B2 m2 (t) := U_708.old hB
                  have Y_710 : Row y709 Y 38 (acta y) := Y_708.old hB
                  have P1_710 : Row y709 P1 52 (dgC pp) := P1_708.old hB
                  have P2_710 : Row y709 P2 52 (dgC pp) := rrP2.old hB
                  have bel_710 : Below w.heap.size w y709 := below_step bel_708 bel_708.size hB
                  clear T_708 U_708 Y_708 P1_708 rrP2 bel_708 hB
                  go_wp2_with fail
                  refine (CR2.out _ U_710 (HKW.out _ bel_710)).mono ?_
                  rintro e y711 ⟨rfl, hB⟩
                  have T_712 : TrAt y711 B1 m1 (doT t y) := T_710.old hB
                  have U_712 : TrAt y711 B2 m2 (t) := U_710.old hB
                  have Y_712 : Row y711 Y 38 (acta y) := Y_710.old hB
                  have P1_712 : Row y711 P1 52 (dgC pp) := P1_710.old hB
                  have P2_712 : Row y711 P2 52 (dgC pp) := P2_710.old hB
                  have bel_712 : Below w.heap.size w y711 := below_step bel_710 bel_710.size hB
                  clear T_710 U_710 Y_710 P1_710 P2_710 bel_710 hB
                  go_wp2_with (first
                    | ((with_reducible refine at_slot 119 ?_); (refine arm_want (.bool true) 119 rfl (by kernel_rfl) (run_op_eqlD KD.out KD.out _ _ _ rfl rfl rfl true ⟨fun _ => rfl, fun _ => rfl⟩ _) ?_)))
                  go_ret
                  exact ⟨rfl, bel_712⟩
                · skip
                  go_wp2_with (first
                    | ((with_reducible refine at_slot 18 ?_); (refine arm_alloc (o := ⟨some 18, _, _, _, _, _⟩) rfl _ rfl (dgC z4) z_path ?_); intro P2 v707a P2e hP2a nP2)
                    | ((with_reducible refine arm_store (o := ⟨none, _, _, _, _, _⟩) rfl _ _ _ rfl P2 0 rfl (dgC pp) rfl _ _ hP2a PF.out (dgC_ones _) KP.out ?_); intro v707 hP2b oP2 sP2)
                    | ((with_reducible refine at_slot 95 ?_); (refine arm_load (o := ⟨some 95, _, _, _, _, _⟩) rfl _ _ rfl P1 0 rfl (dgC pp) ((Has.refl _).range ((P1_706.old nP2.below).only oP2 (by have := P2e.out; have := P1_706.lt; omega))) KP.out ?_))
                    | ((with_reducible refine at_slot 96 ?_); (refine arm_load (o := ⟨some 96, _, _, _, _, _⟩) rfl _ _ rfl P2 0 rfl (dgC pp) ((Has.refl _).range (hP2b.congr PA.out)) KP.out ?_))
                    | ((with_reducible refine at_slot 97 ?_); (refine arm_want (.bool false) 97 rfl (by kernel_rfl) (run_op_neqP PO.out PO.out PL.out PL.out 52 (by kernel_rfl) (by kernel_rfl) _ _ _ rfl rfl rfl true ⟨fun _ => rfl, fun _ => rfl⟩ _) ?_))
                    | ((with_reducible refine at_slot 101 ?_); (refine arm_want (.bool false) 101 rfl (by kernel_rfl) (cmp_neq _ _ .i64 (by kernel_rfl) _ _ rfl .i64 ((pe : Int)) ((pe : Int)) rfl rfl false (decide_eq_true rfl) _) ?_))
                    | ((with_reducible refine at_slot 104 ?_); (refine arm_want (.int .i64 y.doo) 104 rfl (by kernel_rfl) (run_op_load1 _ _ rfl (.int .i64) (by kernel_rfl) rfl ⟨Y, 0, none⟩ rfl _ (((Y_706.old nP2.below).only oP2 (by have := P2e.out; have := Y_706.lt; omega)).cell Y0.out)) ?_))
                    | ((with_reducible refine at_slot 105 ?_); (refine arm_want (.bool false) 105 rfl (by kernel_rfl) (cmp_eql _ _ .i64 (by kernel_rfl) _ _ rfl .i64 (y.doo) (0) rfl rfl false (decide_eq_false hd0) _) ?_)))
                  have lP2 : y705.heap.size ≤ P2 := by have := P2e.out; omega
                  have bP2 : Below y705.heap.size y705 v707 := below_only nP2.below oP2 lP2 nP2.below.size
                  have rrP2 : Row v707 P2 52 (dgC pp) := hP2b.congr PA.out
                  have geP2 : w.heap.size ≤ P2 := Nat.le_trans bel_706.size lP2
                  clear hP2a hP2b nP2 oP2 sP2 P2e lP2
                  have T_708 : TrAt v707 B1 m1 (doT t y) := T_706.old bP2
                  have U_708 : TrAt v707 B2 m2 (t) := U_706.old bP2
                  have Y_708 : Row v707 Y 38 (acta y) := Y_706.old bP2
                  have P1_708 : Row v707 P1 52 (dgC pp) := P1_706.old bP2
                  have bel_708 : Below w.heap.size w v707 := below_step bel_706 bel_706.size bP2
                  clear T_706 U_706 Y_706 P1_706 bel_706 bP2
                  go_ret
                  exact ⟨rfl, bel_708⟩
    · skip
      go_wp2_with fail
      go_ret
      exact ⟨rfl, bel_9⟩
  · skip
    go_wp2_with fail
    go_ret
    exact ⟨rfl, bel_6⟩
end Go.Proofs.YtpebadhknpohkaaDoor.Tr
