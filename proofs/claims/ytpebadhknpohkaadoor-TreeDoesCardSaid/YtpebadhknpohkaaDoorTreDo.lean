/-
  The contracts of layer 15's do and large. Over this seat's translation.
-/
import Derived.Test.YtpebadhknpohkaaDoorTreActs
import Derived.Test.YtpebadhknpohkaaDoorTreLeaf
import Derived.Test.YtpebadhknpohkaaDoorCmp
namespace Go.Proofs.YtpebadhknpohkaaDoor.Tr
open Go.ChangeShapes Go.WideShapes Go.ChangeAt Go.RowKit Go.Proofs.YtpebadhknpohkaaDoor.Mem Go.Proofs.YtpebadhknpohkaaDoor.Bt Go.Proofs.YtpebadhknpohkaaDoor.Wi Go.Proofs.YtpebadhknpohkaaDoor.Sha Go.Proofs.YtpebadhknpohkaaDoor.Ac Go.Proofs.YtpebadhknpohkaaDoor.Im
open Go.Proofs.YtpebadhknpohkaaDoor.Tg (bytesOf bytesOf_length bytesOf_lt bytesOf_inj Rd Rd.below Parts parts_one arm_one tagD tagD_len tagOf_any refTag_any total)
open Go.Proofs.YtpebadhknpohkaaDoor.Sl (Kind At run_op_index)
open Go.Proofs.YtpebadhknpohkaaDoor.Ep (H32 zh zh_ok Has h_len szH zH fitH allH came_at)
set_option linter.unusedVariables false
set_option linter.unusedSimpArgs false

section
variable {P : Program} {ops : Array Oper} {rest : List Oper} {o : Oper} {a : Act} {w : World} {Q : Exit → Act → World → Prop}
/-- An operation that is wanted, yields a value, and may leave another world. -/
theorem arm_wantW {w' : World} (v : Value) (d : Tmp) (hd : o.dst = some d) (hw : Region.wanted o (yielded ops a.tmps) = true) (hr : (execOp a.eval o).run P w = .ok (.value v) w') (h : wpList P ops Q rest (a.put (some d) v) w') : wpList P ops Q (o :: rest) a w :=
  BigFrame.wpList_want hw fun K hK => by
    unfold Oper.wp
    rw [hr]
    rw [← hd] at h
    exact hK _ _ h
end
structure DoPost (w : World) (B mb : Nat) (t : Tree) (x : Acta) (e : Ending) (w' : World) : Prop where
  ret : e = .returned (.tuple #[.int .i64 (doE x : Int), .bool (doB t x)])
  tr : TrAt w' B mb (doT t x)
  ow : Only mb w w'
set_option maxHeartbeats 4000000 in
set_option maxRecDepth 100000 in
theorem do_any (B mb : Nat) (t : Tree) (x : Acta) (w : World) (ht : TrAt w B mb t) (kx : x.Ok) :
    Calls Tryd.prog 10 #[.pointer (some ⟨B, 0, none⟩), .agg (acta x).toArray] w (DoPost w B mb t x) := by
  have CS := Lib.hid (fun w0 h0 => set_any B mb t x.pl x.ac w0 h0 kx.pl)
  have CD := Lib.hid (fun w0 h0 => drop_any B mb t x.pl w0 h0 kx.pl)
  have X0 := Lib.hid (show (acta x)[0]? = some (.int .i64 x.doo) from rfl)
  have X1 := Lib.hid (show (acta x)[1]? = some (.int .i64 x.pl) from rfl)
  have XA := Lib.hid (acta_acc x); have SA := Lib.hid (sz_acc x.ac)
  clear kx
  obtain ⟨c, hc⟩ : ∃ c, c = acta x := ⟨_, rfl⟩
  rw [← hc] at X0 X1 XA ⊢
  clear hc
  obtain ⟨d, hd⟩ : ∃ d, d = x.doo := ⟨_, rfl⟩
  rw [← hd] at X0
  by_cases h0 : d = 0
  · have ET : Hid (setR t x.pl x.ac = doT t x) := Lib.hid (by unfold doT; rw [if_pos (hd ▸ h0)])
    have EE : Hid (setE x.pl x.ac = doE x) := Lib.hid (by unfold doE; rw [if_pos (hd ▸ h0)])
    have EB : Hid (false = doB t x) := Lib.hid (by unfold doB; rw [if_pos (hd ▸ h0)])
    clear hd
    go_enter Tryd.func10, Tryd.ntmps10
    go_wp2_with (first
      | ((with_reducible refine at_slot 3 ?_); (refine arm_box (o := ⟨some 3, _, _, _, _, _⟩) rfl _ _ rfl (c) rfl ?_); intro X v1 Xe hv1 nv1; have hc0 := hv1.cell X0.out; have hc1 := hv1.cell X1.out; have ht1 := ht.old nv1.below)
      | ((with_reducible refine at_slot 9 ?_); (refine arm_want (.bool true) 9 rfl (by kernel_rfl) (cmp_eql _ _ .i64 (by kernel_rfl) _ _ rfl .i64 (d) (0) rfl rfl true (decide_eq_true (by omega)) _) ?_))
      | ((with_reducible refine at_slot 14 ?_); (refine arm_load (o := ⟨some 14, _, _, _, _, _⟩) rfl _ _ rfl X 2 rfl (acs x.ac) (XA.out.range hv1) SA.out ?_)))
    refine (CS.out _ ht1).mono ?_
    rintro e y ⟨rfl, hT, hO⟩
    go_wp2_with fail
    go_ret2
    exact ⟨by rw [EE.out, ← EB.out]; rfl, hT.congr ET.out, (Only.of_below mb nv1.below).trans hO⟩
  · by_cases h1 : d = 1
    · have ET : Hid (dropR t x.pl = doT t x) := Lib.hid (by unfold doT; rw [if_neg (hd ▸ h0), if_pos (hd ▸ h1)])
      have EE : Hid (0 = doE x) := Lib.hid (by unfold doE; rw [if_neg (hd ▸ h0)])
      have EB : Hid ((atI t x.pl).isSome = doB t x) := Lib.hid (by unfold doB; rw [if_neg (hd ▸ h0), if_pos (hd ▸ h1)])
      clear hd
      go_enter Tryd.func10, Tryd.ntmps10
      go_wp2_with (first
        | ((with_reducible refine at_slot 3 ?_); (refine arm_box (o := ⟨some 3, _, _, _, _, _⟩) rfl _ _ rfl (c) rfl ?_); intro X v1 Xe hv1 nv1; have hc0 := hv1.cell X0.out; have hc1 := hv1.cell X1.out; have ht1 := ht.old nv1.below)
        | ((with_reducible refine at_slot 9 ?_); (refine arm_want (.bool false) 9 rfl (by kernel_rfl) (cmp_eql _ _ .i64 (by kernel_rfl) _ _ rfl .i64 (d) (0) rfl rfl false (decide_eq_false (by omega)) _) ?_))
        | ((with_reducible refine at_slot 17 ?_); (refine arm_want (.bool true) 17 rfl (by kernel_rfl) (cmp_eql _ _ .i64 (by kernel_rfl) _ _ rfl .i64 (d) (1) rfl rfl true (decide_eq_true (by omega)) _) ?_)))
      refine (CD.out _ ht1).mono ?_
      rintro e y ⟨rfl, hT, hO⟩
      go_wp2_with fail
      go_ret2
      exact ⟨by rw [← EE.out, ← EB.out]; rfl, hT.congr ET.out, (Only.of_below mb nv1.below).trans hO⟩
    · have ET : Hid (t = doT t x) := Lib.hid (by unfold doT; rw [if_neg (hd ▸ h0), if_neg (hd ▸ h1)])
      have EE : Hid (0 = doE x) := Lib.hid (by unfold doE; rw [if_neg (hd ▸ h0)])
      have EB : Hid (false = doB t x) := Lib.hid (by unfold doB; rw [if_neg (hd ▸ h0), if_neg (hd ▸ h1)])
      clear hd
      go_enter Tryd.func10, Tryd.ntmps10
      go_wp2_with (first
        | ((with_reducible refine at_slot 3 ?_); (refine arm_box (o := ⟨some 3, _, _, _, _, _⟩) rfl _ _ rfl (c) rfl ?_); intro X v1 Xe hv1 nv1; have hc0 := hv1.cell X0.out; have hc1 := hv1.cell X1.out; have ht1 := ht.old nv1.below)
        | ((with_reducible refine at_slot 9 ?_); (refine arm_want (.bool false) 9 rfl (by kernel_rfl) (cmp_eql _ _ .i64 (by kernel_rfl) _ _ rfl .i64 (d) (0) rfl rfl false (decide_eq_false (by omega)) _) ?_))
        | ((with_reducible refine at_slot 17 ?_); (refine arm_want (.bool false) 17 rfl (by kernel_rfl) (cmp_eql _ _ .i64 (by kernel_rfl) _ _ rfl .i64 (d) (1) rfl rfl false (decide_eq_false (by omega)) _) ?_)))
      go_ret2
      exact ⟨by rw [← EE.out, ← EB.out]; rfl, ht1.congr ET.out, Only.of_below mb nv1.below⟩
structure LargePost (w : World) (l : List Acta) (e : Ending) (w' : World) : Prop where
  ex : ∃ b : Bool, e = .returned (.bool b) ∧ (b = false → l.length ≤ 30)
  bel : Below w.heap.size w w'
structure LgRel (w : World) (l : List Acta) (i : Value) (wr : World) : Prop where
  ex : ∃ k : Nat, k ≤ l.length ∧ i = .int .i64 (k : Int)
  bel : Below w.heap.size w wr
set_option maxHeartbeats 4000000 in
set_option maxRecDepth 100000 in
theorem large_any (l : List Acta) (P : Option Addr) (pc : Nat) (w : World) (hs : At kT w P l) :
    Calls Tryd.prog 8 #[.slice P l.length pc] w (LargePost w l) := by
  have HS := Lib.hid hs
  clear hs
  by_cases hbig : 30 < l.length
  · have hbd : decide ((30 : Int) < (l.length : Int)) = true := decide_eq_true (by omega)
    have hbd2 : decide (30 < l.length) = true := decide_eq_true hbig
    go_enter Tryd.func8, Tryd.ntmps8
    go_wp2_with fail
    go_ret
    exact ⟨⟨true, rfl, fun e => (by cases e)⟩, Below.refl _ _⟩
  · have hbd : decide ((30 : Int) < (l.length : Int)) = false := decide_eq_false (by omega)
    have hbd2 : decide (30 < l.length) = false := decide_eq_false hbig
    have HL : Hid (l.length ≤ 30) := Lib.hid (by omega)
    clear hbig
    go_enter Tryd.func8, Tryd.ntmps8
    go_wp2_with fail
    try simp only [Act.put]
    have h0 : LgRel w l (.int .i64 0) w := ⟨⟨0, by omega, rfl⟩, Below.refl _ _⟩
    go_loopw [10] (fun i wr => LgRel w l i wr) (fun i _ => l.length - (intOf i).toNat)
    case atStart => exact h0
    case round =>
      clear h0
      obtain ⟨⟨k, hk, rfl⟩, bel⟩ := hrel
      by_cases hlt : k < l.length
      · obtain ⟨x, g, o, hx, kx, hP, hgl, hrx⟩ := HS.out.get hlt
        subst hP
        have RX := Lib.hid (range_block hrx (bel.block g hgl))
        have ik : (k : Int) < (l.length : Int) := by omega
        have X2 := Lib.hid (show (acta x)[2]? = some (.string x.ac.nm) from rfl)
        have SX := Lib.hid (sz_act x); have FX := Lib.hid (fitT x); have OX := Lib.hid (acta_one x); have LX := Lib.hid (allT x)
        obtain ⟨c, hc⟩ : ∃ c, c = acta x := ⟨_, rfl⟩
        have HR2 : Hid (wr.rangeAt g (o + k * 5) c) := Lib.hid (hc ▸ RX.out)
        rw [← hc] at X2 SX FX OX LX
        have HL2 := HL.out
        clear RX hrx hc
        by_cases hnm : 100 < x.ac.nm.size
        · have hn1 : decide ((100 : Int) < (x.ac.nm.size : Int)) = true := decide_eq_true (by omega)
          have hn2 : decide (100 < x.ac.nm.size) = true := decide_eq_true hnm
          generalize x.ac.nm = s at X2 hn1 hn2 hnm
          go_wp2_with (first
            | ((with_reducible refine at_slot 12 ?_); (refine arm_want (.pointer (some ⟨g, o + k * 5, none⟩)) 12 rfl (by kernel_rfl) (run_op_index fT _ _ rfl g o _ _ rfl .i64 _ rfl k rfl hlt _) ?_))
            | ((with_reducible refine at_slot 13 ?_); (refine arm_load (o := ⟨some 13, _, _, _, _, _⟩) rfl _ _ rfl g (o + k * 5) rfl (c) (HR2.out) SX.out ?_))
            | ((with_reducible refine at_slot 4 ?_); (refine arm_alloc (o := ⟨some 4, _, _, _, _, _⟩) rfl _ rfl (acta zt) z_act ?_); intro X v1 Xe hv1 nv1)
            | ((with_reducible refine arm_store (o := ⟨none, _, _, _, _, _⟩) rfl _ _ _ rfl X 0 rfl c rfl _ _ hv1 FX.out OX.out SX.out ?_); intro v2 hv2 ov2 sv2; have hcs := (hv2.congr LX.out).cell X2.out))
          have geX : w.heap.size ≤ X := by have := Xe.out; have := bel.size; omega
          have bel2 : Below w.heap.size w v2 := below_only (below_step bel bel.size nv1.below) ov2 geX (below_step bel bel.size nv1.below).size
          go_ret
          exact ⟨⟨true, rfl, fun e => (by cases e)⟩, bel2⟩
        · have hn1 : decide ((100 : Int) < (x.ac.nm.size : Int)) = false := decide_eq_false (by omega)
          have hn2 : decide (100 < x.ac.nm.size) = false := decide_eq_false hnm
          generalize x.ac.nm = s at X2 hn1 hn2 hnm
          go_wp2_with (first
            | ((with_reducible refine at_slot 12 ?_); (refine arm_want (.pointer (some ⟨g, o + k * 5, none⟩)) 12 rfl (by kernel_rfl) (run_op_index fT _ _ rfl g o _ _ rfl .i64 _ rfl k rfl hlt _) ?_))
            | ((with_reducible refine at_slot 13 ?_); (refine arm_load (o := ⟨some 13, _, _, _, _, _⟩) rfl _ _ rfl g (o + k * 5) rfl (c) (HR2.out) SX.out ?_))
            | ((with_reducible refine at_slot 4 ?_); (refine arm_alloc (o := ⟨some 4, _, _, _, _, _⟩) rfl _ rfl (acta zt) z_act ?_); intro X v1 Xe hv1 nv1)
            | ((with_reducible refine arm_store (o := ⟨none, _, _, _, _, _⟩) rfl _ _ _ rfl X 0 rfl c rfl _ _ hv1 FX.out OX.out SX.out ?_); intro v2 hv2 ov2 sv2; have hcs := (hv2.congr LX.out).cell X2.out))
          have geX : w.heap.size ≤ X := by have := Xe.out; have := bel.size; omega
          have bel2 : Below w.heap.size w v2 := below_only (below_step bel bel.size nv1.below) ov2 geX (below_step bel bel.size nv1.below).size
          try simp only [Act.put]
          go_roundw
          case rel => exact ⟨⟨k + 1, by omega, by go_num⟩, bel2⟩
          case measure => simp [intOf]; omega
      · obtain rfl : k = l.length := by omega
        go_wp2_with fail
        go_ret
        exact ⟨⟨false, rfl, fun _ => HL.out⟩, bel⟩
end Go.Proofs.YtpebadhknpohkaaDoor.Tr
