/-
  The walk of layer 18's statement VerdictDoes, out of the contracts: it returns true, and changes nothing that was there. Over this seat's translation.
-/
import Derived.Test.YtbpghogdjpobnaaVerAwake
import Derived.Test.YtbpghogdjpobnaaVerRPut
import Derived.LoopTactic
namespace Go.Proofs.Ytbpghogdjpobnaa.Vd
open Go.ChangeShapes Go.WideShapes Go.ChangeAt Go.RowKit Go.Proofs.Ytbpghogdjpobnaa.Mem Go.Proofs.Ytbpghogdjpobnaa.Bt Go.Proofs.Ytbpghogdjpobnaa.Km
open Go.Proofs.Ytbpghogdjpobnaa.Ep (H32 zh zh_ok Has h_len szH zH fitH allH one_app)
open Go.Proofs.Ytbpghogdjpobnaa.Sl (Kind Own At bk)
set_option linter.unusedVariables false
set_option linter.unusedSimpArgs false

structure VdRel (w : World) (B C r : Nat) (l : List Vact) (i : Value) (wr : World) : Prop where
  ex : ∃ k : Nat, k ≤ l.length ∧ i = .int .i64 (k : Int)
  st : ∃ L F G, CAt wr F B r L ∧ RAt wr G C r L ∧ From F w.heap.size ∧ From G w.heap.size ∧ Sep F G
  bel : Below w.heap.size w wr
theorem same_self (l : List (List Nat)) (p q : Option Addr) (cp cq : Nat) (w : World) (hp : At kH w p l) (hq : At kH w q l) (hl : l.length ≤ 1000000) :
    Calls Try.prog 14 #[.slice p l.length cp, .slice q l.length cq] w fun e w' => e = .returned (.bool true) ∧ Below w.heap.size w w' :=
  (same_any l l p q cp cq w hp hq hl).mono fun e w' h => ⟨by rw [h.1, decide_eq_true rfl], h.2⟩
theorem rput_to {F : Nat → Prop} {B r : Nat} {L : VL} {h : List Nat} {b : Bool} {w : World} (hC : RAt w F B r L) (hh : H32 h) (hr : r ≤ 100) :
    Calls Try.prog 10 #[.pointer (some ⟨B, 0, none⟩), .agg (u8s h).toArray, .bool b] w fun e w' => e = .returned (.tuple #[.agg (u8s (goneV r L h)).toArray, .bool (fullV r L h)]) ∧ (∃ F', RAt w' F' B r (putV r L h b) ∧ Grew F F' w.heap.size) ∧ Chg F w w' :=
  (rput_any F B r L h b w hC hh hr).mono fun e w' q => ⟨q.ret, q.ex, q.chg⟩
set_option maxHeartbeats 4000000 in
set_option maxRecDepth 100000 in
theorem verdictDoes_any (room : Int) (l : List Vact) (P : Option Addr) (pc : Nat) (w : World) (hs : At kA w P l) :
    Calls Try.prog 3 #[.int .i64 room, .slice P l.length pc] w fun e w' => e = .returned (.bool true) ∧ Below w.heap.size w w' := by
  have HS := Lib.hid hs
  have CA := Lib.hid (fun w0 => awake_any w0)
  have CN := Lib.hid (fun w0 => new_any room w0)
  have CR := Lib.hid (fun w0 => rnew_any room w0)
  clear hs
  by_cases hbig : 300 < l.length
  · have hbd : decide (300 < (l.length : Int)) = true := decide_eq_true (by omega)
    go_enter Try.func3, Try.ntmps3
    have bel0 : Chg (fun _ => False) w w := Chg.refl _ _
    go_wp2_with fail
    refine (CA.out _).mono ?_
    rintro e y1 ⟨rfl, hB⟩
    have bel_2 : Chg (fun _ => False) w y1 := bel0.old hB
    clear bel0 hB
    go_wp2_with (first
      | ((with_reducible refine at_slot 23 ?_); (refine arm_want (.bool true) 23 rfl (by kernel_rfl) (cmp_gtr _ _ _ _ rfl .i64 ((l.length : Int)) (300) rfl rfl true (hbd) _) ?_); try simp only [Act.put, List.setIfInBounds_toArray, List.set_cons_zero, List.set_cons_succ]))
    go_ret
    exact ⟨rfl, bel_2.below (fun k hk => hk.elim) (Nat.le_refl _)⟩
  · have hbd : decide (300 < (l.length : Int)) = false := decide_eq_false (by omega)
    have HLL : Hid (l.length ≤ 300) := Lib.hid (by omega)
    clear hbig
    go_enter Try.func3, Try.ntmps3
    have bel0 : Chg (fun _ => False) w w := Chg.refl _ _
    go_wp2_with fail
    refine (CA.out _).mono ?_
    rintro e y1 ⟨rfl, hB⟩
    have bel_2 : Chg (fun _ => False) w y1 := bel0.old hB
    clear bel0 hB
    go_wp2_with (first
      | ((with_reducible refine at_slot 23 ?_); (refine arm_want (.bool false) 23 rfl (by kernel_rfl) (cmp_gtr _ _ _ _ rfl .i64 ((l.length : Int)) (300) rfl rfl false (hbd) _) ?_); try simp only [Act.put, List.setIfInBounds_toArray, List.set_cons_zero, List.set_cons_succ]))
    refine (CN.out _).mono ?_
    rintro e y0 ⟨hN, hB⟩
    have hsz0 := bel_2.size
    have bel_3 : Chg (fun _ => False) w y0 := bel_2.old hB
    clear bel_2 hB
    rcases hN with ⟨hr1, hr2, B, F0, rfl, hV, fr0⟩ | ⟨hN, rfl⟩
    · skip
      replace fr0 : From F0 w.heap.size := fun k hk => Nat.le_trans hsz0 (fr0 k hk)
      clear hsz0
      obtain ⟨r, hr⟩ : ∃ r, r = room.toNat := ⟨_, rfl⟩
      rw [← hr] at hV
      have hr100 : r ≤ 100 := by omega
      have HR100 := Lib.hid hr100
      go_wp2_with fail
      refine (CR.out _).mono ?_
      rintro e y1 ⟨hN, hB⟩
      have hl0 := hV.lies; have hsz := bel_3.size
      have V_4 : CAt y1 F0 B r ([]) := hV.old hB
      have bel_4 : Chg (fun _ => False) w y1 := bel_3.old hB
      clear hV bel_3 hB
      rcases hN with ⟨_, _, C, G0, rfl, hU, gr0⟩ | ⟨hN, rfl⟩
      case inr => exact absurd ⟨hr1, hr2⟩ hN
      rw [← hr] at hU
      have hFG : Sep F0 G0 := fun k h1 h2 => by have := hl0 k h1; have := gr0 k h2; omega
      have gr1 : From G0 w.heap.size := fun k hk => by have := gr0 k hk; omega
      clear hl0 hsz gr0 hr hr1 hr2 hr100
      try simp only [Act.put]
      go_wp2_with (first
        | ((with_reducible refine at_slot 36 ?_); (refine arm_want (.bool false) 36 rfl (by kernel_rfl) (cmp_neq _ _ .i64 (by kernel_rfl) _ _ rfl .i64 (0 : Int) (0 : Int) rfl rfl false rfl _) ?_); try simp only [Act.put, List.setIfInBounds_toArray, List.set_cons_zero, List.set_cons_succ])
        | ((with_reducible refine at_slot 39 ?_); (refine arm_want (.bool false) 39 rfl (by kernel_rfl) (run_op_eqlP' _ _ _ (by kernel_rfl) _ _ rfl (some _) rfl rfl false rfl _) ?_); try simp only [Act.put, List.setIfInBounds_toArray, List.set_cons_zero, List.set_cons_succ])
        | ((with_reducible refine at_slot 41 ?_); (refine arm_want (.bool false) 41 rfl (by kernel_rfl) (run_op_eqlP' _ _ _ (by kernel_rfl) _ _ rfl (some _) rfl rfl false rfl _) ?_); try simp only [Act.put, List.setIfInBounds_toArray, List.set_cons_zero, List.set_cons_succ])
        | ((with_reducible refine at_slot 42 ?_); (refine arm_want (.bool false) 42 rfl (by kernel_rfl) (run_op_neqBB _ _ _ rfl false false rfl rfl false rfl _) ?_); try simp only [Act.put, List.setIfInBounds_toArray, List.set_cons_zero, List.set_cons_succ])
        | ((with_reducible refine at_slot 45 ?_); (refine arm_want (.bool false) 45 rfl (by kernel_rfl) (run_op_eqlP' _ _ _ (by kernel_rfl) _ _ rfl (some _) rfl rfl false rfl _) ?_); try simp only [Act.put, List.setIfInBounds_toArray, List.set_cons_zero, List.set_cons_succ]))
      try simp only [Act.put]
      have h0 : VdRel w B C r l (.int .i64 0) y1 := ⟨⟨0, by omega, rfl⟩, ⟨[], F0, G0, V_4, hU, fr0, gr1, hFG⟩, bel_4.below (fun k hk => hk.elim) (Nat.le_refl _)⟩
      clear V_4 hU bel_4 fr0 gr1 hFG CN CA CR
      go_loopw [48] (fun i wr => VdRel w B C r l i wr) (fun i _ => l.length - (intOf i).toNat)
      case atStart => exact h0
      case round =>
        clear h0
        obtain ⟨⟨k, hk, rfl⟩, ⟨L, F, G, hV, hU, fr, gr, hFG⟩, bel⟩ := hrel
        have bel0 : Chg (fun _ => False) w wr := Chg.of_below _ bel
        by_cases hlt : k < l.length
        · skip
          have hk300 : k < 300 := by have := HLL.out; omega
          obtain ⟨x, g, o, hx, kx, hP, hgl, hrx⟩ := (HS.out.below bel).get hlt
          subst hP
          have ik : (k : Int) < (l.length : Int) := by omega
          have KX := Lib.hid kx; have KH := Lib.hid kx.h
          have hrx2 : wr.rangeAt g (o + k * 34) (vac x) := hrx
          have hlV := Lib.hid hV.lies; have hlU := Lib.hid hU.lies
          clear hx kx hrx bel
          go_wp2_with (first
            | ((with_reducible refine at_slot 50 ?_); (refine arm_want (.pointer (some ⟨g, o + k * 34, none⟩)) 50 rfl (by kernel_rfl) (Sl.run_op_index fA _ _ rfl g o _ _ rfl .i64 _ rfl k rfl hlt _) ?_); try simp only [Act.put, List.setIfInBounds_toArray, List.set_cons_zero, List.set_cons_succ])
            | ((with_reducible refine at_slot 51 ?_); (refine arm_load (o := ⟨some 51, _, _, _, _, _⟩) rfl _ _ rfl g (o + k * 34) rfl (vac x) (hrx2) (sz_vac KX.out) ?_); try simp only [Act.put, List.setIfInBounds_toArray, List.set_cons_zero, List.set_cons_succ])
            | ((with_reducible refine at_slot 10 ?_); (refine arm_alloc (o := ⟨some 10, _, _, _, _, _⟩) rfl _ rfl (vac zv) z_vac ?_); intro X v101a Xe hXa nX; try simp only [Act.put, List.setIfInBounds_toArray, List.set_cons_zero, List.set_cons_succ])
            | ((with_reducible refine arm_store (o := ⟨none, _, _, _, _, _⟩) rfl _ _ _ rfl X 0 rfl (vac x) rfl _ _ hXa (fitVa KX.out) (vac_one _) (sz_vac KX.out) ?_); intro v101 hXb oX sX; try simp only [Act.put, List.setIfInBounds_toArray, List.set_cons_zero, List.set_cons_succ]; refine fpause ?_; try simp only [Act.put, List.setIfInBounds_toArray, List.set_cons_zero, List.set_cons_succ]))
          have lX : wr.heap.size ≤ X := by have := Xe.out; omega
          have bX : Below wr.heap.size wr v101 := below_only nX.below oX lX nX.below.size
          have rrX : Row v101 X 34 (vac x) := hXb.congr (allVa KX.out)
          have geX : w.heap.size ≤ X := Nat.le_trans bel0.size lX
          have lXx := lX
          clear hXa hXb nX oX sX Xe lX
          have V_102 : CAt v101 F B r (L) := hV.old bX
          have U_102 : RAt v101 G C r (L) := hU.old bX
          have bel_102 : Chg (fun _ => False) w v101 := bel0.old bX
          clear hV hU bel0 bX
          refine fgo ?_
          have nXF : ¬ F X := fun q => by have := hlV.out X q; omega
          have nXG : ¬ G X := fun q => by have := hlU.out X q; omega
          clear hrx2 hlV hlU
          have X0 := Lib.hid (vac_d x); have X1 := Lib.hid (vac_h x); have X33 := Lib.hid (vac_b KX.out)
          obtain ⟨d, hd⟩ : ∃ d, d = x.doo := ⟨_, rfl⟩
          rw [← hd] at X0
          clear hd
          by_cases h0 : d = 0
          · skip
            have hc0 := rrX.cell X0.out; have hc33 := rrX.cell X33.out
            have HGO := Lib.hid (gone_ok V_102.ok x.h)
            go_wp2_with (first
              | ((with_reducible refine at_slot 54 ?_); (refine arm_want (.bool true) 54 rfl (by kernel_rfl) (cmp_eql _ _ .i64 (by kernel_rfl) _ _ rfl .i64 (d) (0) rfl rfl true (decide_eq_true h0) _) ?_); try simp only [Act.put, List.setIfInBounds_toArray, List.set_cons_zero, List.set_cons_succ])
              | ((with_reducible refine at_slot 58 ?_); (refine arm_load (o := ⟨some 58, _, _, _, _, _⟩) rfl _ _ rfl X 1 rfl (u8s x.h) (X1.out.range rrX) (szH KH.out) ?_); try simp only [Act.put, List.setIfInBounds_toArray, List.set_cons_zero, List.set_cons_succ]))
            clear hc0 hc33
            refine (put_to V_102 KH.out HR100.out rfl rfl rfl).mono ?_
            rintro e yP103 ⟨rfl, ⟨F2, hV2, hG2⟩, hc⟩
            have fr2 := hG2.from fr bel_102.size
            have hFG2 := hFG.grew hG2 U_102.lies
            have nXF2 := notF_grew nXF hG2 rrX.lt
            have V_104 : CAt yP103 F2 B r (putV r L x.h x.is) := hV2
            have U_104 : RAt yP103 G C r (L) := U_102.chg hc hFG
            have X_104 : Row yP103 X 34 (vac x) := rrX.chg hc nXF
            have bel_104 : Chg (fun _ => False) w yP103 := bel_102.fresh hc fr
            clear V_102 U_102 rrX bel_102 hc
            clear hG2
            have hlU := Lib.hid U_104.lies; have hlV := Lib.hid V_104.lies
            go_wp2_with (first
              | ((with_reducible refine at_slot 11 ?_); (refine arm_alloc (o := ⟨some 11, _, _, _, _, _⟩) rfl _ rfl (u8s zh) zH ?_); intro A v105a Ae hAa nA; try simp only [Act.put, List.setIfInBounds_toArray, List.set_cons_zero, List.set_cons_succ])
              | ((with_reducible refine arm_store (o := ⟨none, _, _, _, _, _⟩) rfl _ _ _ rfl A 0 rfl (u8s (goneV r L x.h)) rfl _ _ hAa (fitH HGO.out) (u8s_one _) (szH HGO.out) ?_); intro v105 hAb oA sA; try simp only [Act.put, List.setIfInBounds_toArray, List.set_cons_zero, List.set_cons_succ]; refine fpause ?_; try simp only [Act.put, List.setIfInBounds_toArray, List.set_cons_zero, List.set_cons_succ]))
            have lA : yP103.heap.size ≤ A := by have := Ae.out; omega
            have bA : Below yP103.heap.size yP103 v105 := below_only nA.below oA lA nA.below.size
            have rrA : Row v105 A 32 (u8s (goneV r L x.h)) := hAb.congr (allH HGO.out)
            have geA : w.heap.size ≤ A := Nat.le_trans bel_104.size lA
            have lAx := lA
            clear hAa hAb nA oA sA Ae lA
            have V_106 : CAt v105 F2 B r (putV r L x.h x.is) := V_104.old bA
            have U_106 : RAt v105 G C r (L) := U_104.old bA
            have X_106 : Row v105 X 34 (vac x) := X_104.old bA
            have bel_106 : Chg (fun _ => False) w v105 := bel_104.old bA
            clear V_104 U_104 X_104 bel_104 bA
            refine fgo ?_
            have nAG : ¬ G A := fun q => by have := hlU.out A q; omega
            clear hlU hlV
            have hc33 := X_106.cell X33.out
            go_wp2_with (first
              | ((with_reducible refine at_slot 67 ?_); (refine arm_load (o := ⟨some 67, _, _, _, _, _⟩) rfl _ _ rfl X 1 rfl (u8s x.h) (X1.out.range X_106) (szH KH.out) ?_); try simp only [Act.put, List.setIfInBounds_toArray, List.set_cons_zero, List.set_cons_succ]))
            clear hc33
            refine (rput_to U_106 KH.out HR100.out).mono ?_
            rintro e yP107 ⟨rfl, ⟨G2, hV2, hG2⟩, hc⟩
            have gr2 := hG2.from gr bel_106.size
            have hFG3 := (hFG2.symm.grew hG2 V_106.lies).symm
            have V_108 : CAt yP107 F2 B r (putV r L x.h x.is) := V_106.chg hc hFG2.symm
            have U_108 : RAt yP107 G2 C r (putV r L x.h x.is) := hV2
            have X_108 : Row yP107 X 34 (vac x) := X_106.chg hc nXG
            have A_108 : Row yP107 A 32 (u8s (goneV r L x.h)) := rrA.chg hc nAG
            have bel_108 : Chg (fun _ => False) w yP107 := bel_106.fresh hc gr
            clear V_106 U_106 X_106 rrA bel_106 hc
            clear hG2
            go_wp2_with (first
              | ((with_reducible refine at_slot 13 ?_); (refine arm_alloc (o := ⟨some 13, _, _, _, _, _⟩) rfl _ rfl (u8s zh) zH ?_); intro A2 v109a A2e hA2a nA2; try simp only [Act.put, List.setIfInBounds_toArray, List.set_cons_zero, List.set_cons_succ])
              | ((with_reducible refine arm_store (o := ⟨none, _, _, _, _, _⟩) rfl _ _ _ rfl A2 0 rfl (u8s (goneV r L x.h)) rfl _ _ hA2a (fitH HGO.out) (u8s_one _) (szH HGO.out) ?_); intro v109 hA2b oA2 sA2; try simp only [Act.put, List.setIfInBounds_toArray, List.set_cons_zero, List.set_cons_succ]; refine fpause ?_; try simp only [Act.put, List.setIfInBounds_toArray, List.set_cons_zero, List.set_cons_succ]))
            have lA2 : yP107.heap.size ≤ A2 := by have := A2e.out; omega
            have bA2 : Below yP107.heap.size yP107 v109 := below_only nA2.below oA2 lA2 nA2.below.size
            have rrA2 : Row v109 A2 32 (u8s (goneV r L x.h)) := hA2b.congr (allH HGO.out)
            have geA2 : w.heap.size ≤ A2 := Nat.le_trans bel_108.size lA2
            have lA2x := lA2
            clear hA2a hA2b nA2 oA2 sA2 A2e lA2
            have V_110 : CAt v109 F2 B r (putV r L x.h x.is) := V_108.old bA2
            have U_110 : RAt v109 G2 C r (putV r L x.h x.is) := U_108.old bA2
            have X_110 : Row v109 X 34 (vac x) := X_108.old bA2
            have A_110 : Row v109 A 32 (u8s (goneV r L x.h)) := A_108.old bA2
            have bel_110 : Chg (fun _ => False) w v109 := bel_108.old bA2
            clear V_108 U_108 X_108 A_108 bel_108 bA2
            refine fgo ?_
            generalize fullV r L x.h = ff
            have CG1 := Lib.hid (fun w0 h0 => get_any F2 B r (putV r L x.h x.is) x.h w0 h0 KH.out)
            have CG2 := Lib.hid (fun w0 h0 => rget_any G2 C r (putV r L x.h x.is) x.h w0 h0 KH.out HR100.out)
            have LKK : Hid ((keys (putV r L x.h x.is)).length ≤ 1000000) := Lib.hid (by rw [keys_len]; have := V_110.ok.len; have := HR100.out; omega)
            generalize (getV (putV r L x.h x.is) x.h).getD false = v at CG1 CG2
            generalize (getV (putV r L x.h x.is) x.h).isSome = s at CG1 CG2
            go_wp2_with (first
              | ((with_reducible refine at_slot 73 ?_); (refine arm_load (o := ⟨some 73, _, _, _, _, _⟩) rfl _ _ rfl A 0 rfl (u8s (goneV r L x.h)) ((Has.refl _).range A_110) (szH HGO.out) ?_); try simp only [Act.put, List.setIfInBounds_toArray, List.set_cons_zero, List.set_cons_succ])
              | ((with_reducible refine at_slot 74 ?_); (refine arm_load (o := ⟨some 74, _, _, _, _, _⟩) rfl _ _ rfl A2 0 rfl (u8s (goneV r L x.h)) ((Has.refl _).range rrA2) (szH HGO.out) ?_); try simp only [Act.put, List.setIfInBounds_toArray, List.set_cons_zero, List.set_cons_succ])
              | ((with_reducible refine at_slot 75 ?_); (refine arm_want (.bool false) 75 rfl (by kernel_rfl) (run_op_neqV _ _ _ rfl (goneV r L x.h) (goneV r L x.h) HGO.out HGO.out rfl rfl false (by rw [decide_eq_true rfl]; rfl) _) ?_); try simp only [Act.put, List.setIfInBounds_toArray, List.set_cons_zero, List.set_cons_succ])
              | ((with_reducible refine at_slot 79 ?_); (refine arm_want (.bool false) 79 rfl (by kernel_rfl) (run_op_neqBB _ _ _ rfl ff ff rfl rfl false (by cases ff <;> rfl) _) ?_); try simp only [Act.put, List.setIfInBounds_toArray, List.set_cons_zero, List.set_cons_succ])
              | ((with_reducible refine at_slot 84 ?_); (refine arm_load (o := ⟨some 84, _, _, _, _, _⟩) rfl _ _ rfl X 1 rfl (u8s x.h) (X1.out.range X_110) (szH KH.out) ?_); try simp only [Act.put, List.setIfInBounds_toArray, List.set_cons_zero, List.set_cons_succ]))
            refine (CG1.out _ V_110).mono ?_
            rintro e y111 ⟨rfl, hB⟩
            have V_112 : CAt y111 F2 B r (putV r L x.h x.is) := V_110.old hB
            have U_112 : RAt y111 G2 C r (putV r L x.h x.is) := U_110.old hB
            have X_112 : Row y111 X 34 (vac x) := X_110.old hB
            have A_112 : Row y111 A 32 (u8s (goneV r L x.h)) := A_110.old hB
            have A2_112 : Row y111 A2 32 (u8s (goneV r L x.h)) := rrA2.old hB
            have bel_112 : Chg (fun _ => False) w y111 := bel_110.old hB
            clear V_110 U_110 X_110 A_110 rrA2 bel_110 hB
            go_wp2_with (first
              | ((with_reducible refine at_slot 91 ?_); (refine arm_load (o := ⟨some 91, _, _, _, _, _⟩) rfl _ _ rfl X 1 rfl (u8s x.h) (X1.out.range X_112) (szH KH.out) ?_); try simp only [Act.put, List.setIfInBounds_toArray, List.set_cons_zero, List.set_cons_succ]))
            refine (CG2.out _ U_112).mono ?_
            rintro e y113 ⟨rfl, hB⟩
            have V_114 : CAt y113 F2 B r (putV r L x.h x.is) := V_112.old hB
            have U_114 : RAt y113 G2 C r (putV r L x.h x.is) := U_112.old hB
            have X_114 : Row y113 X 34 (vac x) := X_112.old hB
            have A_114 : Row y113 A 32 (u8s (goneV r L x.h)) := A_112.old hB
            have A2_114 : Row y113 A2 32 (u8s (goneV r L x.h)) := A2_112.old hB
            have bel_114 : Chg (fun _ => False) w y113 := bel_112.old hB
            clear V_112 U_112 X_112 A_112 A2_112 bel_112 hB
            go_wp2_with fail
            obtain ⟨p9, c9, hC9, _⟩ := U_114.ex
            refine wp_region_held (S := fun w' => Row w' C 42 (rcs r p9 (putV r L x.h x.is).length c9) ∧ True) (by kernel_rfl) ?_
            change wpAnyH _ _ _ _ _ _ _ _ y113.drew
            have hd115 : Below y113.heap.size y113 y113.drew := (Below.refl _ _).drew
            have V_116 : CAt y113.drew F2 B r (putV r L x.h x.is) := V_114.old hd115
            have U_116 : RAt y113.drew G2 C r (putV r L x.h x.is) := U_114.old hd115
            have X_116 : Row y113.drew X 34 (vac x) := X_114.old hd115
            have A_116 : Row y113.drew A 32 (u8s (goneV r L x.h)) := A_114.old hd115
            have A2_116 : Row y113.drew A2 32 (u8s (goneV r L x.h)) := A2_114.old hd115
            have C_116 : Row y113.drew C 42 (rcs r p9 (putV r L x.h x.is).length c9) := hC9.old hd115
            have bel_116 : Chg (fun _ => False) w y113.drew := bel_114.old hd115
            clear V_114 U_114 X_114 A_114 A2_114 hC9 bel_114 hd115
            generalize y113.drew = yz115 at V_116 U_116 X_116 A_116 A2_116 C_116 bel_116 ⊢
            refine h_take 0 (.bool v) rfl 95 rfl (by kernel_rfl) (by kernel_rfl) (by kernel_rfl) (by kernel_rfl) (fun _ _ _ h => h) (fun w' _ => by kernel_rfl) ⟨C_116, trivial⟩ ?_
            simp only [Act.put, List.setIfInBounds_toArray, List.set_cons_zero, List.set_cons_succ]
            refine h_take 1 (.bool v) rfl 96 rfl (by kernel_rfl) (by kernel_rfl) (by kernel_rfl) (by kernel_rfl) (fun _ _ _ h => h) (fun w' _ => by kernel_rfl) ⟨C_116, trivial⟩ ?_
            simp only [Act.put, List.setIfInBounds_toArray, List.set_cons_zero, List.set_cons_succ]
            refine h_take 2 (.bool false) rfl 97 rfl (by kernel_rfl) (by kernel_rfl) (by kernel_rfl) (by kernel_rfl) (fun _ _ _ h => h) (fun w' _ => run_op_neqBB _ _ _ rfl v v rfl rfl false (by cases v <;> rfl) w') ⟨C_116, trivial⟩ ?_
            simp only [Act.put, List.setIfInBounds_toArray, List.set_cons_zero, List.set_cons_succ]
            refine h_take 3 (.bool false) rfl 98 rfl (by kernel_rfl) (by kernel_rfl) (by kernel_rfl) (by kernel_rfl) (fun _ _ _ h => h) (fun w' _ => by kernel_rfl) ⟨C_116, trivial⟩ ?_
            simp only [Act.put, List.setIfInBounds_toArray, List.set_cons_zero, List.set_cons_succ]
            refine h_take 4 (.bool s) rfl 99 rfl (by kernel_rfl) (by kernel_rfl) (by kernel_rfl) (by kernel_rfl) (fun _ _ _ h => h) (fun w' _ => by kernel_rfl) ⟨C_116, trivial⟩ ?_
            simp only [Act.put, List.setIfInBounds_toArray, List.set_cons_zero, List.set_cons_succ]
            refine h_take 5 (.bool s) rfl 100 rfl (by kernel_rfl) (by kernel_rfl) (by kernel_rfl) (by kernel_rfl) (fun _ _ _ h => h) (fun w' _ => by kernel_rfl) ⟨C_116, trivial⟩ ?_
            simp only [Act.put, List.setIfInBounds_toArray, List.set_cons_zero, List.set_cons_succ]
            refine h_take 6 (.bool false) rfl 101 rfl (by kernel_rfl) (by kernel_rfl) (by kernel_rfl) (by kernel_rfl) (fun _ _ _ h => h) (fun w' _ => run_op_neqBB _ _ _ rfl s s rfl rfl false (by cases s <;> rfl) w') ⟨C_116, trivial⟩ ?_
            simp only [Act.put, List.setIfInBounds_toArray, List.set_cons_zero, List.set_cons_succ]
            refine h_take 7 (.bool false) rfl 102 rfl (by kernel_rfl) (by kernel_rfl) (by kernel_rfl) (by kernel_rfl) (fun _ _ _ h => h) (fun w' _ => by kernel_rfl) ⟨C_116, trivial⟩ ?_
            simp only [Act.put, List.setIfInBounds_toArray, List.set_cons_zero, List.set_cons_succ]
            refine h_take 8 (.bool false) rfl 103 rfl (by kernel_rfl) (by kernel_rfl) (by kernel_rfl) (by kernel_rfl) (fun _ _ _ h => h) (fun w' _ => by kernel_rfl) ⟨C_116, trivial⟩ ?_
            simp only [Act.put, List.setIfInBounds_toArray, List.set_cons_zero, List.set_cons_succ]
            refine h_take 9 (.pointer (some ⟨B, 0, none⟩)) rfl 104 rfl (by kernel_rfl) (by kernel_rfl) (by kernel_rfl) (by kernel_rfl) (fun _ _ _ h => h) (fun w' _ => by kernel_rfl) ⟨C_116, trivial⟩ ?_
            simp only [Act.put, List.setIfInBounds_toArray, List.set_cons_zero, List.set_cons_succ]
            refine h_take 11 (.pointer (some ⟨C, 0, none⟩)) rfl 106 rfl (by kernel_rfl) (by kernel_rfl) (by kernel_rfl) (by kernel_rfl) (fun _ _ _ h => h) (fun w' _ => by kernel_rfl) ⟨C_116, trivial⟩ ?_
            simp only [Act.put, List.setIfInBounds_toArray, List.set_cons_zero, List.set_cons_succ]
            refine h_take 12 (.pointer (some ⟨C, 0, none⟩)) rfl 107 rfl (by kernel_rfl) (by kernel_rfl) (by kernel_rfl) (by kernel_rfl) (fun _ _ _ h => h) (fun w' _ => by kernel_rfl) ⟨C_116, trivial⟩ ?_
            simp only [Act.put, List.setIfInBounds_toArray, List.set_cons_zero, List.set_cons_succ]
            refine h_take 13 (.pointer (some ⟨C, 0, none⟩)) rfl 108 rfl (by kernel_rfl) (by kernel_rfl) (by kernel_rfl) (by kernel_rfl) (fun _ _ _ h => h) (fun w' _ => by kernel_rfl) ⟨C_116, trivial⟩ ?_
            simp only [Act.put, List.setIfInBounds_toArray, List.set_cons_zero, List.set_cons_succ]
            refine h_take 14 (.slice p9 (putV r L x.h x.is).length c9) rfl 109 rfl (by kernel_rfl) (by kernel_rfl) (by kernel_rfl) (by kernel_rfl) (fun _ _ _ h => h) (fun w' hw => run_op_load1 _ _ rfl (.slice 57) fP.und rfl ⟨C, 0, none⟩ rfl (.slice p9 (putV r L x.h x.is).length c9) (hw.1.cell (i := 0) rfl)) ⟨C_116, trivial⟩ ?_
            simp only [Act.put, List.setIfInBounds_toArray, List.set_cons_zero, List.set_cons_succ]
            refine h_take 15 (.int .i64 ((putV r L x.h x.is).length : Int)) rfl 110 rfl (by kernel_rfl) (by kernel_rfl) (by kernel_rfl) (by kernel_rfl) (fun _ _ _ h => h) (fun w' _ => Sl.run_op_lenK _ _ _ rfl fP.und _ _ _ rfl w') ⟨C_116, trivial⟩ ?_
            simp only [Act.put, List.setIfInBounds_toArray, List.set_cons_zero, List.set_cons_succ]
            refine h_one (i := 10) (by kernel_rfl) (o_call rfl 105 rfl (by kernel_rfl) (run_op_call 13 _ _ rfl #[.pointer (some ⟨B, 0, none⟩)] (by simp only [List.map_toArray, List.map_cons, List.map_nil]; rfl) Try.func13 (by kernel_rfl) (by kernel_rfl) _) (len_any F2 B r (putV r L x.h x.is) _ V_116) ?_)
            rintro e _ ⟨rfl, rfl⟩
            refine ⟨_, rfl, ⟨C_116, trivial⟩, ?_⟩
            simp only [Act.put, List.setIfInBounds_toArray, List.set_cons_zero, List.set_cons_succ]
            refine h_take 16 (.bool false) rfl 111 rfl (by kernel_rfl) (by kernel_rfl) (by kernel_rfl) (by kernel_rfl) (fun _ _ _ h => h) (fun w' _ => cmp_neq _ _ .i64 (by kernel_rfl) _ _ rfl .i64 ((putV r L x.h x.is).length : Int) ((putV r L x.h x.is).length : Int) rfl rfl false (decide_eq_true rfl) w') ⟨C_116, trivial⟩ ?_
            simp only [Act.put, List.setIfInBounds_toArray, List.set_cons_zero, List.set_cons_succ]
            refine h_take 17 (.bool false) rfl 112 rfl (by kernel_rfl) (by kernel_rfl) (by kernel_rfl) (by kernel_rfl) (fun _ _ _ h => h) (fun w' _ => by kernel_rfl) ⟨C_116, trivial⟩ ?_
            simp only [Act.put, List.setIfInBounds_toArray, List.set_cons_zero, List.set_cons_succ]
            refine h_take 18 (.bool false) rfl 113 rfl (by kernel_rfl) (by kernel_rfl) (by kernel_rfl) (by kernel_rfl) (fun _ _ _ h => h) (fun w' _ => by kernel_rfl) ⟨C_116, trivial⟩ ?_
            simp only [Act.put, List.setIfInBounds_toArray, List.set_cons_zero, List.set_cons_succ]
            refine h_take 19 (.pointer (some ⟨B, 0, none⟩)) rfl 114 rfl (by kernel_rfl) (by kernel_rfl) (by kernel_rfl) (by kernel_rfl) (fun _ _ _ h => h) (fun w' _ => by kernel_rfl) ⟨C_116, trivial⟩ ?_
            simp only [Act.put, List.setIfInBounds_toArray, List.set_cons_zero, List.set_cons_succ]
            refine h_take 21 (.pointer (some ⟨C, 0, none⟩)) rfl 116 rfl (by kernel_rfl) (by kernel_rfl) (by kernel_rfl) (by kernel_rfl) (fun _ _ _ h => h) (fun w' _ => by kernel_rfl) ⟨C_116, trivial⟩ ?_
            simp only [Act.put, List.setIfInBounds_toArray, List.set_cons_zero, List.set_cons_succ]
            refine h_one (i := 20) (by kernel_rfl) (o_call rfl 115 rfl (by kernel_rfl) (run_op_call 15 _ _ rfl #[.pointer (some ⟨B, 0, none⟩)] (by simp only [List.map_toArray, List.map_cons, List.map_nil]; rfl) Try.func15 (by kernel_rfl) (by kernel_rfl) _) (known_any F2 B r (putV r L x.h x.is) _ V_116 HR100.out) ?_)
            rintro e y117 ⟨⟨q, cq, rfl, hq⟩, hB⟩
            have V_118 : CAt y117 F2 B r (putV r L x.h x.is) := V_116.old hB
            have U_118 : RAt y117 G2 C r (putV r L x.h x.is) := U_116.old hB
            have X_118 : Row y117 X 34 (vac x) := X_116.old hB
            have A_118 : Row y117 A 32 (u8s (goneV r L x.h)) := A_116.old hB
            have A2_118 : Row y117 A2 32 (u8s (goneV r L x.h)) := A2_116.old hB
            have C_118 : Row y117 C 42 (rcs r p9 (putV r L x.h x.is).length c9) := C_116.old hB
            have bel_118 : Chg (fun _ => False) w y117 := bel_116.old hB
            clear V_116 U_116 X_116 A_116 A2_116 C_116 bel_116 hB
            have hq0 := hq.low (Nat.zero_le _)
            refine ⟨_, rfl, ⟨C_118, trivial⟩, ?_⟩
            simp only [Act.put, List.setIfInBounds_toArray, List.set_cons_zero, List.set_cons_succ]
            refine h_one (i := 22) (by kernel_rfl) (o_call rfl 117 rfl (by kernel_rfl) (run_op_call 16 _ _ rfl #[.pointer (some ⟨C, 0, none⟩)] (by simp only [List.map_toArray, List.map_cons, List.map_nil]; rfl) Try.func16 (by kernel_rfl) (by kernel_rfl) _) (rknown_any G2 C r (putV r L x.h x.is) _ U_118 HR100.out) ?_)
            rintro e y119 ⟨⟨q2, cq2, rfl, hq2⟩, hB⟩
            have V_120 : CAt y119 F2 B r (putV r L x.h x.is) := V_118.old hB
            have U_120 : RAt y119 G2 C r (putV r L x.h x.is) := U_118.old hB
            have X_120 : Row y119 X 34 (vac x) := X_118.old hB
            have A_120 : Row y119 A 32 (u8s (goneV r L x.h)) := A_118.old hB
            have A2_120 : Row y119 A2 32 (u8s (goneV r L x.h)) := A2_118.old hB
            have C_120 : Row y119 C 42 (rcs r p9 (putV r L x.h x.is).length c9) := C_118.old hB
            have Q_120 : Own kH y119 0 q cq (keys (putV r L x.h x.is)) := hq0.below hB
            have bel_120 : Chg (fun _ => False) w y119 := bel_118.old hB
            clear V_118 U_118 X_118 A_118 A2_118 C_118 hq0 bel_118 hB
            have hq20 := hq2.low (Nat.zero_le _)
            refine ⟨_, rfl, ⟨C_120, trivial⟩, ?_⟩
            simp only [Act.put, List.setIfInBounds_toArray, List.set_cons_zero, List.set_cons_succ]
            refine h_one (i := 23) (by kernel_rfl) (o_call rfl 118 rfl (by kernel_rfl) (run_op_call 14 _ _ rfl #[.slice q (keys (putV r L x.h x.is)).length cq, .slice q2 (keys (putV r L x.h x.is)).length cq2] (by simp only [List.map_toArray, List.map_cons, List.map_nil]; rfl) Try.func14 (by kernel_rfl) (by kernel_rfl) _) (same_self (keys (putV r L x.h x.is)) q q2 cq cq2 _ (Q_120.at fH) (hq20.at fH) LKK.out) ?_)
            rintro e y121 ⟨rfl, hB⟩
            have V_122 : CAt y121 F2 B r (putV r L x.h x.is) := V_120.old hB
            have U_122 : RAt y121 G2 C r (putV r L x.h x.is) := U_120.old hB
            have X_122 : Row y121 X 34 (vac x) := X_120.old hB
            have A_122 : Row y121 A 32 (u8s (goneV r L x.h)) := A_120.old hB
            have A2_122 : Row y121 A2 32 (u8s (goneV r L x.h)) := A2_120.old hB
            have C_122 : Row y121 C 42 (rcs r p9 (putV r L x.h x.is).length c9) := C_120.old hB
            have Q_122 : Own kH y121 0 q cq (keys (putV r L x.h x.is)) := Q_120.below hB
            have Q2_122 : Own kH y121 0 q2 cq2 (keys (putV r L x.h x.is)) := hq20.below hB
            have bel_122 : Chg (fun _ => False) w y121 := bel_120.old hB
            clear V_120 U_120 X_120 A_120 A2_120 C_120 Q_120 hq20 bel_120 hB
            refine ⟨_, rfl, ⟨C_122, trivial⟩, ?_⟩
            simp only [Act.put, List.setIfInBounds_toArray, List.set_cons_zero, List.set_cons_succ]
            refine h_take 24 (.bool false) rfl 119 rfl (by kernel_rfl) (by kernel_rfl) (by kernel_rfl) (by kernel_rfl) (fun _ _ _ h => h) (fun w' _ => by kernel_rfl) ⟨C_122, trivial⟩ ?_
            simp only [Act.put, List.setIfInBounds_toArray, List.set_cons_zero, List.set_cons_succ]
            refine h_take 25 (.bool false) rfl 120 rfl (by kernel_rfl) (by kernel_rfl) (by kernel_rfl) (by kernel_rfl) (fun _ _ _ h => h) (fun w' _ => by kernel_rfl) ⟨C_122, trivial⟩ ?_
            simp only [Act.put, List.setIfInBounds_toArray, List.set_cons_zero, List.set_cons_succ]
            refine wpAnyH_done (by kernel_rfl) ?_ _
            go_wp2_with fail
            go_roundw
            case rel => exact ⟨⟨k + 1, by omega, by go_num⟩, ⟨putV r L x.h x.is, F2, G2, V_122, U_122, fr2, gr2, hFG3⟩, bel_122.below (fun k hk => hk.elim) (Nat.le_refl _)⟩
            case measure => simp [intOf]; omega
          · skip
            have hc0 := rrX.cell X0.out
            have CG1 := Lib.hid (fun w0 h0 => get_any F B r (L) x.h w0 h0 KH.out)
            have CG2 := Lib.hid (fun w0 h0 => rget_any G C r (L) x.h w0 h0 KH.out HR100.out)
            have LKK : Hid ((keys (L)).length ≤ 1000000) := Lib.hid (by rw [keys_len]; have := V_102.ok.len; have := HR100.out; omega)
            generalize (getV (L) x.h).getD false = v at CG1 CG2
            generalize (getV (L) x.h).isSome = s at CG1 CG2
            go_wp2_with (first
              | ((with_reducible refine at_slot 54 ?_); (refine arm_want (.bool false) 54 rfl (by kernel_rfl) (cmp_eql _ _ .i64 (by kernel_rfl) _ _ rfl .i64 (d) (0) rfl rfl false (decide_eq_false h0) _) ?_); try simp only [Act.put, List.setIfInBounds_toArray, List.set_cons_zero, List.set_cons_succ])
              | ((with_reducible refine at_slot 84 ?_); (refine arm_load (o := ⟨some 84, _, _, _, _, _⟩) rfl _ _ rfl X 1 rfl (u8s x.h) (X1.out.range rrX) (szH KH.out) ?_); try simp only [Act.put, List.setIfInBounds_toArray, List.set_cons_zero, List.set_cons_succ]))
            refine (CG1.out _ V_102).mono ?_
            rintro e y103 ⟨rfl, hB⟩
            have V_104 : CAt y103 F B r (L) := V_102.old hB
            have U_104 : RAt y103 G C r (L) := U_102.old hB
            have X_104 : Row y103 X 34 (vac x) := rrX.old hB
            have bel_104 : Chg (fun _ => False) w y103 := bel_102.old hB
            clear V_102 U_102 rrX bel_102 hB
            go_wp2_with (first
              | ((with_reducible refine at_slot 91 ?_); (refine arm_load (o := ⟨some 91, _, _, _, _, _⟩) rfl _ _ rfl X 1 rfl (u8s x.h) (X1.out.range X_104) (szH KH.out) ?_); try simp only [Act.put, List.setIfInBounds_toArray, List.set_cons_zero, List.set_cons_succ]))
            refine (CG2.out _ U_104).mono ?_
            rintro e y105 ⟨rfl, hB⟩
            have V_106 : CAt y105 F B r (L) := V_104.old hB
            have U_106 : RAt y105 G C r (L) := U_104.old hB
            have X_106 : Row y105 X 34 (vac x) := X_104.old hB
            have bel_106 : Chg (fun _ => False) w y105 := bel_104.old hB
            clear V_104 U_104 X_104 bel_104 hB
            go_wp2_with fail
            obtain ⟨p9, c9, hC9, _⟩ := U_106.ex
            refine wp_region_held (S := fun w' => Row w' C 42 (rcs r p9 (L).length c9) ∧ True) (by kernel_rfl) ?_
            change wpAnyH _ _ _ _ _ _ _ _ y105.drew
            have hd107 : Below y105.heap.size y105 y105.drew := (Below.refl _ _).drew
            have V_108 : CAt y105.drew F B r (L) := V_106.old hd107
            have U_108 : RAt y105.drew G C r (L) := U_106.old hd107
            have X_108 : Row y105.drew X 34 (vac x) := X_106.old hd107
            have C_108 : Row y105.drew C 42 (rcs r p9 (L).length c9) := hC9.old hd107
            have bel_108 : Chg (fun _ => False) w y105.drew := bel_106.old hd107
            clear V_106 U_106 X_106 hC9 bel_106 hd107
            generalize y105.drew = yz107 at V_108 U_108 X_108 C_108 bel_108 ⊢
            refine h_take 0 (.bool v) rfl 95 rfl (by kernel_rfl) (by kernel_rfl) (by kernel_rfl) (by kernel_rfl) (fun _ _ _ h => h) (fun w' _ => by kernel_rfl) ⟨C_108, trivial⟩ ?_
            simp only [Act.put, List.setIfInBounds_toArray, List.set_cons_zero, List.set_cons_succ]
            refine h_take 1 (.bool v) rfl 96 rfl (by kernel_rfl) (by kernel_rfl) (by kernel_rfl) (by kernel_rfl) (fun _ _ _ h => h) (fun w' _ => by kernel_rfl) ⟨C_108, trivial⟩ ?_
            simp only [Act.put, List.setIfInBounds_toArray, List.set_cons_zero, List.set_cons_succ]
            refine h_take 2 (.bool false) rfl 97 rfl (by kernel_rfl) (by kernel_rfl) (by kernel_rfl) (by kernel_rfl) (fun _ _ _ h => h) (fun w' _ => run_op_neqBB _ _ _ rfl v v rfl rfl false (by cases v <;> rfl) w') ⟨C_108, trivial⟩ ?_
            simp only [Act.put, List.setIfInBounds_toArray, List.set_cons_zero, List.set_cons_succ]
            refine h_take 3 (.bool false) rfl 98 rfl (by kernel_rfl) (by kernel_rfl) (by kernel_rfl) (by kernel_rfl) (fun _ _ _ h => h) (fun w' _ => by kernel_rfl) ⟨C_108, trivial⟩ ?_
            simp only [Act.put, List.setIfInBounds_toArray, List.set_cons_zero, List.set_cons_succ]
            refine h_take 4 (.bool s) rfl 99 rfl (by kernel_rfl) (by kernel_rfl) (by kernel_rfl) (by kernel_rfl) (fun _ _ _ h => h) (fun w' _ => by kernel_rfl) ⟨C_108, trivial⟩ ?_
            simp only [Act.put, List.setIfInBounds_toArray, List.set_cons_zero, List.set_cons_succ]
            refine h_take 5 (.bool s) rfl 100 rfl (by kernel_rfl) (by kernel_rfl) (by kernel_rfl) (by kernel_rfl) (fun _ _ _ h => h) (fun w' _ => by kernel_rfl) ⟨C_108, trivial⟩ ?_
            simp only [Act.put, List.setIfInBounds_toArray, List.set_cons_zero, List.set_cons_succ]
            refine h_take 6 (.bool false) rfl 101 rfl (by kernel_rfl) (by kernel_rfl) (by kernel_rfl) (by kernel_rfl) (fun _ _ _ h => h) (fun w' _ => run_op_neqBB _ _ _ rfl s s rfl rfl false (by cases s <;> rfl) w') ⟨C_108, trivial⟩ ?_
            simp only [Act.put, List.setIfInBounds_toArray, List.set_cons_zero, List.set_cons_succ]
            refine h_take 7 (.bool false) rfl 102 rfl (by kernel_rfl) (by kernel_rfl) (by kernel_rfl) (by kernel_rfl) (fun _ _ _ h => h) (fun w' _ => by kernel_rfl) ⟨C_108, trivial⟩ ?_
            simp only [Act.put, List.setIfInBounds_toArray, List.set_cons_zero, List.set_cons_succ]
            refine h_take 8 (.bool false) rfl 103 rfl (by kernel_rfl) (by kernel_rfl) (by kernel_rfl) (by kernel_rfl) (fun _ _ _ h => h) (fun w' _ => by kernel_rfl) ⟨C_108, trivial⟩ ?_
            simp only [Act.put, List.setIfInBounds_toArray, List.set_cons_zero, List.set_cons_succ]
            refine h_take 9 (.pointer (some ⟨B, 0, none⟩)) rfl 104 rfl (by kernel_rfl) (by kernel_rfl) (by kernel_rfl) (by kernel_rfl) (fun _ _ _ h => h) (fun w' _ => by kernel_rfl) ⟨C_108, trivial⟩ ?_
            simp only [Act.put, List.setIfInBounds_toArray, List.set_cons_zero, List.set_cons_succ]
            refine h_take 11 (.pointer (some ⟨C, 0, none⟩)) rfl 106 rfl (by kernel_rfl) (by kernel_rfl) (by kernel_rfl) (by kernel_rfl) (fun _ _ _ h => h) (fun w' _ => by kernel_rfl) ⟨C_108, trivial⟩ ?_
            simp only [Act.put, List.setIfInBounds_toArray, List.set_cons_zero, List.set_cons_succ]
            refine h_take 12 (.pointer (some ⟨C, 0, none⟩)) rfl 107 rfl (by kernel_rfl) (by kernel_rfl) (by kernel_rfl) (by kernel_rfl) (fun _ _ _ h => h) (fun w' _ => by kernel_rfl) ⟨C_108, trivial⟩ ?_
            simp only [Act.put, List.setIfInBounds_toArray, List.set_cons_zero, List.set_cons_succ]
            refine h_take 13 (.pointer (some ⟨C, 0, none⟩)) rfl 108 rfl (by kernel_rfl) (by kernel_rfl) (by kernel_rfl) (by kernel_rfl) (fun _ _ _ h => h) (fun w' _ => by kernel_rfl) ⟨C_108, trivial⟩ ?_
            simp only [Act.put, List.setIfInBounds_toArray, List.set_cons_zero, List.set_cons_succ]
            refine h_take 14 (.slice p9 (L).length c9) rfl 109 rfl (by kernel_rfl) (by kernel_rfl) (by kernel_rfl) (by kernel_rfl) (fun _ _ _ h => h) (fun w' hw => run_op_load1 _ _ rfl (.slice 57) fP.und rfl ⟨C, 0, none⟩ rfl (.slice p9 (L).length c9) (hw.1.cell (i := 0) rfl)) ⟨C_108, trivial⟩ ?_
            simp only [Act.put, List.setIfInBounds_toArray, List.set_cons_zero, List.set_cons_succ]
            refine h_take 15 (.int .i64 ((L).length : Int)) rfl 110 rfl (by kernel_rfl) (by kernel_rfl) (by kernel_rfl) (by kernel_rfl) (fun _ _ _ h => h) (fun w' _ => Sl.run_op_lenK _ _ _ rfl fP.und _ _ _ rfl w') ⟨C_108, trivial⟩ ?_
            simp only [Act.put, List.setIfInBounds_toArray, List.set_cons_zero, List.set_cons_succ]
            refine h_one (i := 10) (by kernel_rfl) (o_call rfl 105 rfl (by kernel_rfl) (run_op_call 13 _ _ rfl #[.pointer (some ⟨B, 0, none⟩)] (by simp only [List.map_toArray, List.map_cons, List.map_nil]; rfl) Try.func13 (by kernel_rfl) (by kernel_rfl) _) (len_any F B r (L) _ V_108) ?_)
            rintro e _ ⟨rfl, rfl⟩
            refine ⟨_, rfl, ⟨C_108, trivial⟩, ?_⟩
            simp only [Act.put, List.setIfInBounds_toArray, List.set_cons_zero, List.set_cons_succ]
            refine h_take 16 (.bool false) rfl 111 rfl (by kernel_rfl) (by kernel_rfl) (by kernel_rfl) (by kernel_rfl) (fun _ _ _ h => h) (fun w' _ => cmp_neq _ _ .i64 (by kernel_rfl) _ _ rfl .i64 ((L).length : Int) ((L).length : Int) rfl rfl false (decide_eq_true rfl) w') ⟨C_108, trivial⟩ ?_
            simp only [Act.put, List.setIfInBounds_toArray, List.set_cons_zero, List.set_cons_succ]
            refine h_take 17 (.bool false) rfl 112 rfl (by kernel_rfl) (by kernel_rfl) (by kernel_rfl) (by kernel_rfl) (fun _ _ _ h => h) (fun w' _ => by kernel_rfl) ⟨C_108, trivial⟩ ?_
            simp only [Act.put, List.setIfInBounds_toArray, List.set_cons_zero, List.set_cons_succ]
            refine h_take 18 (.bool false) rfl 113 rfl (by kernel_rfl) (by kernel_rfl) (by kernel_rfl) (by kernel_rfl) (fun _ _ _ h => h) (fun w' _ => by kernel_rfl) ⟨C_108, trivial⟩ ?_
            simp only [Act.put, List.setIfInBounds_toArray, List.set_cons_zero, List.set_cons_succ]
            refine h_take 19 (.pointer (some ⟨B, 0, none⟩)) rfl 114 rfl (by kernel_rfl) (by kernel_rfl) (by kernel_rfl) (by kernel_rfl) (fun _ _ _ h => h) (fun w' _ => by kernel_rfl) ⟨C_108, trivial⟩ ?_
            simp only [Act.put, List.setIfInBounds_toArray, List.set_cons_zero, List.set_cons_succ]
            refine h_take 21 (.pointer (some ⟨C, 0, none⟩)) rfl 116 rfl (by kernel_rfl) (by kernel_rfl) (by kernel_rfl) (by kernel_rfl) (fun _ _ _ h => h) (fun w' _ => by kernel_rfl) ⟨C_108, trivial⟩ ?_
            simp only [Act.put, List.setIfInBounds_toArray, List.set_cons_zero, List.set_cons_succ]
            refine h_one (i := 20) (by kernel_rfl) (o_call rfl 115 rfl (by kernel_rfl) (run_op_call 15 _ _ rfl #[.pointer (some ⟨B, 0, none⟩)] (by simp only [List.map_toArray, List.map_cons, List.map_nil]; rfl) Try.func15 (by kernel_rfl) (by kernel_rfl) _) (known_any F B r (L) _ V_108 HR100.out) ?_)
            rintro e y109 ⟨⟨q, cq, rfl, hq⟩, hB⟩
            have V_110 : CAt y109 F B r (L) := V_108.old hB
            have U_110 : RAt y109 G C r (L) := U_108.old hB
            have X_110 : Row y109 X 34 (vac x) := X_108.old hB
            have C_110 : Row y109 C 42 (rcs r p9 (L).length c9) := C_108.old hB
            have bel_110 : Chg (fun _ => False) w y109 := bel_108.old hB
            clear V_108 U_108 X_108 C_108 bel_108 hB
            have hq0 := hq.low (Nat.zero_le _)
            refine ⟨_, rfl, ⟨C_110, trivial⟩, ?_⟩
            simp only [Act.put, List.setIfInBounds_toArray, List.set_cons_zero, List.set_cons_succ]
            refine h_one (i := 22) (by kernel_rfl) (o_call rfl 117 rfl (by kernel_rfl) (run_op_call 16 _ _ rfl #[.pointer (some ⟨C, 0, none⟩)] (by simp only [List.map_toArray, List.map_cons, List.map_nil]; rfl) Try.func16 (by kernel_rfl) (by kernel_rfl) _) (rknown_any G C r (L) _ U_110 HR100.out) ?_)
            rintro e y111 ⟨⟨q2, cq2, rfl, hq2⟩, hB⟩
            have V_112 : CAt y111 F B r (L) := V_110.old hB
            have U_112 : RAt y111 G C r (L) := U_110.old hB
            have X_112 : Row y111 X 34 (vac x) := X_110.old hB
            have C_112 : Row y111 C 42 (rcs r p9 (L).length c9) := C_110.old hB
            have Q_112 : Own kH y111 0 q cq (keys (L)) := hq0.below hB
            have bel_112 : Chg (fun _ => False) w y111 := bel_110.old hB
            clear V_110 U_110 X_110 C_110 hq0 bel_110 hB
            have hq20 := hq2.low (Nat.zero_le _)
            refine ⟨_, rfl, ⟨C_112, trivial⟩, ?_⟩
            simp only [Act.put, List.setIfInBounds_toArray, List.set_cons_zero, List.set_cons_succ]
            refine h_one (i := 23) (by kernel_rfl) (o_call rfl 118 rfl (by kernel_rfl) (run_op_call 14 _ _ rfl #[.slice q (keys (L)).length cq, .slice q2 (keys (L)).length cq2] (by simp only [List.map_toArray, List.map_cons, List.map_nil]; rfl) Try.func14 (by kernel_rfl) (by kernel_rfl) _) (same_self (keys (L)) q q2 cq cq2 _ (Q_112.at fH) (hq20.at fH) LKK.out) ?_)
            rintro e y113 ⟨rfl, hB⟩
            have V_114 : CAt y113 F B r (L) := V_112.old hB
            have U_114 : RAt y113 G C r (L) := U_112.old hB
            have X_114 : Row y113 X 34 (vac x) := X_112.old hB
            have C_114 : Row y113 C 42 (rcs r p9 (L).length c9) := C_112.old hB
            have Q_114 : Own kH y113 0 q cq (keys (L)) := Q_112.below hB
            have Q2_114 : Own kH y113 0 q2 cq2 (keys (L)) := hq20.below hB
            have bel_114 : Chg (fun _ => False) w y113 := bel_112.old hB
            clear V_112 U_112 X_112 C_112 Q_112 hq20 bel_112 hB
            refine ⟨_, rfl, ⟨C_114, trivial⟩, ?_⟩
            simp only [Act.put, List.setIfInBounds_toArray, List.set_cons_zero, List.set_cons_succ]
            refine h_take 24 (.bool false) rfl 119 rfl (by kernel_rfl) (by kernel_rfl) (by kernel_rfl) (by kernel_rfl) (fun _ _ _ h => h) (fun w' _ => by kernel_rfl) ⟨C_114, trivial⟩ ?_
            simp only [Act.put, List.setIfInBounds_toArray, List.set_cons_zero, List.set_cons_succ]
            refine h_take 25 (.bool false) rfl 120 rfl (by kernel_rfl) (by kernel_rfl) (by kernel_rfl) (by kernel_rfl) (fun _ _ _ h => h) (fun w' _ => by kernel_rfl) ⟨C_114, trivial⟩ ?_
            simp only [Act.put, List.setIfInBounds_toArray, List.set_cons_zero, List.set_cons_succ]
            refine wpAnyH_done (by kernel_rfl) ?_ _
            go_wp2_with fail
            go_roundw
            case rel => exact ⟨⟨k + 1, by omega, by go_num⟩, ⟨L, F, G, V_114, U_114, fr, gr, hFG⟩, bel_114.below (fun k hk => hk.elim) (Nat.le_refl _)⟩
            case measure => simp [intOf]; omega
        · skip
          obtain rfl : k = l.length := by omega
          clear hV hU fr gr hFG hlt
          go_wp2_with fail
          go_ret
          exact ⟨rfl, bel⟩
    · skip
      go_wp2_with fail
      refine (CR.out _).mono ?_
      rintro e y1 ⟨hN2, hB⟩
      have bel_4 : Chg (fun _ => False) w y1 := bel_3.old hB
      clear bel_3 hB
      rcases hN2 with ⟨h1, h2, _⟩ | ⟨_, rfl⟩
      case inl => exact absurd ⟨h1, h2⟩ hN
      try simp only [Act.put]
      go_wp2_with (first
        | ((with_reducible refine at_slot 36 ?_); (refine arm_want (.bool false) 36 rfl (by kernel_rfl) (cmp_neq _ _ .i64 (by kernel_rfl) _ _ rfl .i64 (1 : Int) (1 : Int) rfl rfl false rfl _) ?_); try simp only [Act.put, List.setIfInBounds_toArray, List.set_cons_zero, List.set_cons_succ])
        | ((with_reducible refine at_slot 39 ?_); (refine arm_want (.bool true) 39 rfl (by kernel_rfl) (run_op_eqlP' _ _ _ (by kernel_rfl) _ _ rfl none rfl rfl true rfl _) ?_); try simp only [Act.put, List.setIfInBounds_toArray, List.set_cons_zero, List.set_cons_succ])
        | ((with_reducible refine at_slot 41 ?_); (refine arm_want (.bool true) 41 rfl (by kernel_rfl) (run_op_eqlP' _ _ _ (by kernel_rfl) _ _ rfl none rfl rfl true rfl _) ?_); try simp only [Act.put, List.setIfInBounds_toArray, List.set_cons_zero, List.set_cons_succ])
        | ((with_reducible refine at_slot 42 ?_); (refine arm_want (.bool false) 42 rfl (by kernel_rfl) (run_op_neqBB _ _ _ rfl true true rfl rfl false rfl _) ?_); try simp only [Act.put, List.setIfInBounds_toArray, List.set_cons_zero, List.set_cons_succ])
        | ((with_reducible refine at_slot 45 ?_); (refine arm_want (.bool true) 45 rfl (by kernel_rfl) (run_op_eqlP' _ _ _ (by kernel_rfl) _ _ rfl none rfl rfl true rfl _) ?_); try simp only [Act.put, List.setIfInBounds_toArray, List.set_cons_zero, List.set_cons_succ]))
      go_ret
      exact ⟨rfl, bel_4.below (fun k hk => hk.elim) (Nat.le_refl _)⟩
end Go.Proofs.Ytbpghogdjpobnaa.Vd
