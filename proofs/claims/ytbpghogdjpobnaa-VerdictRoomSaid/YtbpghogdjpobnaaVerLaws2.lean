/-
  The walk of layer 18's statement VerdictRoom, out of the contracts: it returns true, and changes nothing that was there. Over this seat's translation.
-/
import Derived.Test.YtbpghogdjpobnaaVerAwake
import Derived.LoopTactic
namespace Go.Proofs.Ytbpghogdjpobnaa.Vd
open Go.ChangeShapes Go.WideShapes Go.ChangeAt Go.RowKit Go.Proofs.Ytbpghogdjpobnaa.Mem Go.Proofs.Ytbpghogdjpobnaa.Bt Go.Proofs.Ytbpghogdjpobnaa.Km
open Go.Proofs.Ytbpghogdjpobnaa.Ep (H32 zh zh_ok Has h_len szH zH fitH allH one_app)
open Go.Proofs.Ytbpghogdjpobnaa.Sl (Kind Own At bk)
set_option linter.unusedVariables false
set_option linter.unusedSimpArgs false

theorem run_op_addN {P : Program} {o : Oper} {a : Act} (t t' : TypeId) (x y : Operand) (ho : o.op = .binOp .add t x y t') (m n r : Int) (hx : a.eval x = .int .i64 m) (hy : a.eval y = .int .i64 n) (hr : IntKind.i64.wrap (m + n) = r) (w : World) :
    (execOp a.eval o).run P w = .ok (.value (.int .i64 r)) w := by
  subst hr
  unfold execOp
  simp [ho, hx, hy, eqGuard, binOp, Op.intArith]
structure VrRel (w : World) (B r H : Nat) (h : List Nat) (l : List Vact) (i s t : Value) (wr : World) : Prop where
  ex : ∃ k : Nat, k ≤ l.length ∧ i = .int .i64 (k : Int)
  st : ∃ L F, CAt wr F B r L ∧ From F w.heap.size ∧ ¬ F H ∧ s = .bool ((getV L h).getD false) ∧ t = .bool (getV L h).isSome
  row : Row wr H 32 (u8s h)
  bel : Below w.heap.size w wr
theorem len_to {F : Nat → Prop} {B r n : Nat} {L : VL} {w : World} (hC : CAt w F B r L) (e : L.length = n) : Calls Try.prog 13 #[.pointer (some ⟨B, 0, none⟩)] w fun e w' => e = .returned (.int .i64 (n : Int)) ∧ w = w' := by
  subst e
  exact len_any F B r L w hC
set_option maxHeartbeats 4000000 in
set_option maxRecDepth 100000 in
theorem verdictRoom_any (room : Int) (l : List Vact) (P : Option Addr) (pc : Nat) (h : List Nat) (w : World) (hs : At kA w P l) (hh : H32 h) :
    Calls Try.prog 4 #[.int .i64 room, .slice P l.length pc, .agg (u8s h).toArray] w fun e w' => e = .returned (.bool true) ∧ Below w.heap.size w w' := by
  have HS := Lib.hid hs; have KHH := Lib.hid hh
  have CA := Lib.hid (fun w0 => awake_any w0)
  have CN := Lib.hid (fun w0 => new_any room w0)
  clear hs hh
  go_enter Try.func4, Try.ntmps4
  have bel0 : Chg (fun _ => False) w w := Chg.refl _ _
  go_wp2_with (first
    | ((with_reducible refine at_slot 5 ?_); (refine arm_box (o := ⟨some 5, _, _, _, _, _⟩) rfl _ _ rfl (u8s h) rfl ?_); intro H v1 He hv1 nv1; try simp only [Act.put, List.setIfInBounds_toArray, List.set_cons_zero, List.set_cons_succ]))
  have hbv1 := nv1.below
  have rrv1 : Row v1 H 32 (u8s h) := hv1
  have geH : w.heap.size ≤ H := by have := He.out; have := bel0.size; omega
  have lHx : w.heap.size ≤ H := by have := He.out; omega
  clear hv1 nv1 He
  have bel_2 : Chg (fun _ => False) w v1 := bel0.old hbv1
  clear bel0 hbv1
  refine (CA.out _).mono ?_
  rintro e y3 ⟨rfl, hB⟩
  have H_4 : Row y3 H 32 (u8s h) := rrv1.old hB
  have bel_4 : Chg (fun _ => False) w y3 := bel_2.old hB
  clear rrv1 bel_2 hB
  go_wp2_with fail
  refine (CN.out _).mono ?_
  rintro e y0 ⟨hN, hB⟩
  have hsz0 := bel_4.size; have hH0 := H_4.lt
  have H_5 : Row y0 H 32 (u8s h) := H_4.old hB
  have bel_5 : Chg (fun _ => False) w y0 := bel_4.old hB
  clear H_4 bel_4 hB
  rcases hN with ⟨hr1, hr2, B, F0, rfl, hV, fr0⟩ | ⟨hN, rfl⟩
  · skip
    have nH : ¬ F0 H := fun q => by have := fr0 H q; omega
    replace fr0 : From F0 w.heap.size := fun k hk => Nat.le_trans hsz0 (fr0 k hk)
    clear hsz0 hH0
    obtain ⟨r, rfl⟩ : ∃ r : Nat, room = (r : Int) := ⟨room.toNat, by omega⟩
    rw [Int.toNat_natCast] at hV
    have HR100 : Hid (r ≤ 100) := Lib.hid (by omega)
    have HR1 : Hid (1 ≤ r) := Lib.hid (by omega)
    clear hr1 hr2
    by_cases hbig : 300 < l.length
    · have hbd : decide (300 < (l.length : Int)) = true := decide_eq_true (by omega)
      go_wp2_with (first
        | ((with_reducible refine at_slot 28 ?_); (refine arm_want (.bool false) 28 rfl (by kernel_rfl) (run_op_eqlP' _ _ _ (by kernel_rfl) _ _ rfl (some _) rfl rfl false rfl _) ?_); try simp only [Act.put, List.setIfInBounds_toArray, List.set_cons_zero, List.set_cons_succ])
        | ((with_reducible refine at_slot 32 ?_); (refine arm_want (.bool true) 32 rfl (by kernel_rfl) (cmp_gtr _ _ _ _ rfl .i64 ((l.length : Int)) (300) rfl rfl true (hbd) _) ?_); try simp only [Act.put, List.setIfInBounds_toArray, List.set_cons_zero, List.set_cons_succ]))
      go_ret
      exact ⟨rfl, bel_5.below (fun k hk => hk.elim) (Nat.le_refl _)⟩
    · have hbd : decide (300 < (l.length : Int)) = false := decide_eq_false (by omega)
      have HLL : Hid (l.length ≤ 300) := Lib.hid (by omega)
      clear hbig
      go_wp2_with (first
        | ((with_reducible refine at_slot 28 ?_); (refine arm_want (.bool false) 28 rfl (by kernel_rfl) (run_op_eqlP' _ _ _ (by kernel_rfl) _ _ rfl (some _) rfl rfl false rfl _) ?_); try simp only [Act.put, List.setIfInBounds_toArray, List.set_cons_zero, List.set_cons_succ])
        | ((with_reducible refine at_slot 32 ?_); (refine arm_want (.bool false) 32 rfl (by kernel_rfl) (cmp_gtr _ _ _ _ rfl .i64 ((l.length : Int)) (300) rfl rfl false (hbd) _) ?_); try simp only [Act.put, List.setIfInBounds_toArray, List.set_cons_zero, List.set_cons_succ]))
      try simp only [Act.put]
      have h0 : VrRel w B r H h l (.int .i64 0) (.bool false) (.bool false) y0 := ⟨⟨0, by omega, rfl⟩, ⟨[], F0, hV, fr0, nH, rfl, rfl⟩, H_5, bel_5.below (fun k hk => hk.elim) (Nat.le_refl _)⟩
      clear hV H_5 bel_5 fr0 nH CN CA lHx
      go_loopw [36, 9, 10] (fun i s t wr => VrRel w B r H h l i s t wr) (fun i _ _ _ => l.length - (intOf i).toNat)
      case atStart => exact h0
      case round =>
        clear h0
        obtain ⟨⟨k, hk, rfl⟩, ⟨L, F, hV, fr, nH, rfl, rfl⟩, hHr, bel⟩ := hrel
        have bel0 : Chg (fun _ => False) w wr := Chg.of_below _ bel
        by_cases hlt : k < l.length
        · skip
          have hk300 : k < 300 := by have := HLL.out; omega
          obtain ⟨x, g, o, hx, kx, hP, hgl, hrx⟩ := (HS.out.below bel).get hlt
          subst hP
          have ik : (k : Int) < (l.length : Int) := by omega
          have KX := Lib.hid kx; have KH := Lib.hid kx.h
          have hrx2 : wr.rangeAt g (o + k * 34) (vac x) := hrx
          have hlV := Lib.hid hV.lies
          obtain ⟨ov, hov⟩ : ∃ ov, ov = getV L h := ⟨_, rfl⟩
          have HOV := Lib.hid hov
          rw [← hov]
          clear hx kx hrx bel hov
          go_wp2_with (first
            | ((with_reducible refine at_slot 38 ?_); (refine arm_want (.pointer (some ⟨g, o + k * 34, none⟩)) 38 rfl (by kernel_rfl) (Sl.run_op_index fA _ _ rfl g o _ _ rfl .i64 _ rfl k rfl hlt _) ?_); try simp only [Act.put, List.setIfInBounds_toArray, List.set_cons_zero, List.set_cons_succ])
            | ((with_reducible refine at_slot 39 ?_); (refine arm_load (o := ⟨some 39, _, _, _, _, _⟩) rfl _ _ rfl g (o + k * 34) rfl (vac x) (hrx2) (sz_vac KX.out) ?_); try simp only [Act.put, List.setIfInBounds_toArray, List.set_cons_zero, List.set_cons_succ])
            | ((with_reducible refine at_slot 12 ?_); (refine arm_alloc (o := ⟨some 12, _, _, _, _, _⟩) rfl _ rfl (vac zv) z_vac ?_); intro X v101a Xe hXa nX; try simp only [Act.put, List.setIfInBounds_toArray, List.set_cons_zero, List.set_cons_succ])
            | ((with_reducible refine arm_store (o := ⟨none, _, _, _, _, _⟩) rfl _ _ _ rfl X 0 rfl (vac x) rfl _ _ hXa (fitVa KX.out) (vac_one _) (sz_vac KX.out) ?_); intro v101 hXb oX sX; try simp only [Act.put, List.setIfInBounds_toArray, List.set_cons_zero, List.set_cons_succ]; refine fpause ?_; try simp only [Act.put, List.setIfInBounds_toArray, List.set_cons_zero, List.set_cons_succ]))
          have lX : wr.heap.size ≤ X := by have := Xe.out; omega
          have bX : Below wr.heap.size wr v101 := below_only nX.below oX lX nX.below.size
          have rrX : Row v101 X 34 (vac x) := hXb.congr (allVa KX.out)
          have geX : w.heap.size ≤ X := Nat.le_trans bel0.size lX
          have lXx := lX
          clear hXa hXb nX oX sX Xe lX
          have V_102 : CAt v101 F B r (L) := hV.old bX
          have H_102 : Row v101 H 32 (u8s h) := hHr.old bX
          have bel_102 : Chg (fun _ => False) w v101 := bel0.old bX
          clear hV hHr bel0 bX
          refine fgo ?_
          have nX : ¬ F X := fun q => by have := hlV.out X q; omega
          clear hrx2 hlV
          have X0 := Lib.hid (vac_d x); have X1 := Lib.hid (vac_h x); have X33 := Lib.hid (vac_b KX.out)
          obtain ⟨d, hd⟩ : ∃ d, d = x.doo := ⟨_, rfl⟩
          rw [← hd] at X0
          clear hd
          by_cases h0 : d = 0
          · skip
            by_cases hi : x.h ∈ keys L
            · skip
              have HKN : Hid ((getV L x.h).isSome = true) := Lib.hid (get_in.2 hi)
              have HFU : Hid (fullV r L x.h = false) := Lib.hid (full_no hi)
              have HLE : Hid ((putV r L x.h x.is).length = L.length) := Lib.hid (by rw [put_in hi]; exact List.length_map ..)
              clear hi
              have hc0 := rrX.cell X0.out
              go_wp2_with (first
                | ((with_reducible refine at_slot 42 ?_); (refine arm_want (.bool false) 42 rfl (by kernel_rfl) (cmp_neq _ _ .i64 (by kernel_rfl) _ _ rfl .i64 (d) (0) rfl rfl false (decide_eq_true h0) _) ?_); try simp only [Act.put, List.setIfInBounds_toArray, List.set_cons_zero, List.set_cons_succ])
                | ((with_reducible refine at_slot 46 ?_); (refine arm_load (o := ⟨some 46, _, _, _, _, _⟩) rfl _ _ rfl X 1 rfl (u8s x.h) (X1.out.range rrX) (szH KH.out) ?_); try simp only [Act.put, List.setIfInBounds_toArray, List.set_cons_zero, List.set_cons_succ]))
              clear hc0
              refine (get_to (v := (getV L x.h).getD false) (s := true) V_102 KH.out rfl HKN.out).mono ?_
              rintro e y103 ⟨rfl, hB⟩
              have V_104 : CAt y103 F B r (L) := V_102.old hB
              have H_104 : Row y103 H 32 (u8s h) := H_102.old hB
              have X_104 : Row y103 X 34 (vac x) := rrX.old hB
              have bel_104 : Chg (fun _ => False) w y103 := bel_102.old hB
              clear V_102 H_102 rrX bel_102 hB
              go_wp2_with fail
              refine (len_to V_104 rfl).mono ?_
              rintro e z105 ⟨rfl, rfl⟩
              have hc33 := X_104.cell X33.out
              go_wp2_with (first
                | ((with_reducible refine at_slot 55 ?_); (refine arm_load (o := ⟨some 55, _, _, _, _, _⟩) rfl _ _ rfl X 1 rfl (u8s x.h) (X1.out.range X_104) (szH KH.out) ?_); try simp only [Act.put, List.setIfInBounds_toArray, List.set_cons_zero, List.set_cons_succ]))
              clear hc33
              have HGO := Lib.hid (gone_ok V_104.ok x.h)
              have HPO := Lib.hid (put_ok V_104.ok KH.out x.is)
              have HPL := Lib.hid (len_put V_104.ok x.h x.is)
              have HGP := Lib.hid (get_put V_104.ok x.h x.is h)
              refine (put_to V_104 KH.out HR100.out rfl rfl HFU.out).mono ?_
              rintro e yP106 ⟨rfl, ⟨F2, hV2, hG2⟩, hc⟩
              have mH := notF_grew nH hG2 H_104.lt
              have mX := notF_grew nX hG2 X_104.lt
              have fr2 := hG2.from fr bel_104.size
              have V_107 : CAt yP106 F2 B r (putV r L x.h x.is) := hV2
              have H_107 : Row yP106 H 32 (u8s h) := H_104.chg hc nH
              have X_107 : Row yP106 X 34 (vac x) := X_104.chg hc nX
              have bel_107 : Chg (fun _ => False) w yP106 := bel_104.fresh hc fr
              clear V_104 H_104 X_104 bel_104 hc
              clear nH
              have nH := mH
              clear mH
              clear nX
              have nX := mX
              clear mX
              clear hG2
              have HLR : Hid (decide ((r : Int) < ((putV r L x.h x.is).length : Int)) = false) := Lib.hid (decide_eq_false (by have := HPO.out.len; omega))
              have HKK : Hid (decide (((keys (putV r L x.h x.is)).length : Int) = ((putV r L x.h x.is).length : Int)) = !false) := Lib.hid (decide_eq_true (by rw [keys_len]))
              have hlV := Lib.hid V_107.lies
              go_wp2_with (first
                | ((with_reducible refine at_slot 16 ?_); (refine arm_alloc (o := ⟨some 16, _, _, _, _, _⟩) rfl _ rfl (u8s zh) zH ?_); intro A v108a Ae hAa nA; try simp only [Act.put, List.setIfInBounds_toArray, List.set_cons_zero, List.set_cons_succ])
                | ((with_reducible refine arm_store (o := ⟨none, _, _, _, _, _⟩) rfl _ _ _ rfl A 0 rfl (u8s (goneV r L x.h)) rfl _ _ hAa (fitH HGO.out) (u8s_one _) (szH HGO.out) ?_); intro v108 hAb oA sA; try simp only [Act.put, List.setIfInBounds_toArray, List.set_cons_zero, List.set_cons_succ]; refine fpause ?_; try simp only [Act.put, List.setIfInBounds_toArray, List.set_cons_zero, List.set_cons_succ]))
              have lA : yP106.heap.size ≤ A := by have := Ae.out; omega
              have bA : Below yP106.heap.size yP106 v108 := below_only nA.below oA lA nA.below.size
              have rrA : Row v108 A 32 (u8s (goneV r L x.h)) := hAb.congr (allH HGO.out)
              have geA : w.heap.size ≤ A := Nat.le_trans bel_107.size lA
              have lAx := lA
              clear hAa hAb nA oA sA Ae lA
              have V_109 : CAt v108 F2 B r (putV r L x.h x.is) := V_107.old bA
              have H_109 : Row v108 H 32 (u8s h) := H_107.old bA
              have X_109 : Row v108 X 34 (vac x) := X_107.old bA
              have bel_109 : Chg (fun _ => False) w v108 := bel_107.old bA
              clear V_107 H_107 X_107 bel_107 bA
              refine fgo ?_
              clear hlV
              go_wp2_with (first
                | ((with_reducible refine at_slot 69 ?_); (refine arm_want (.bool false) 69 rfl (by kernel_rfl) (run_op_neqBB _ _ _ rfl false false rfl rfl false rfl _) ?_); try simp only [Act.put, List.setIfInBounds_toArray, List.set_cons_zero, List.set_cons_succ]))
              refine (len_to (n := L.length) V_109 HLE.out).mono ?_
              rintro e z110 ⟨rfl, rfl⟩
              have HNG : Hid ((if fullV r L x.h = true ∧ goneV r L x.h = h then none else getV L h) = getV L h) := Lib.hid (if_neg (fun q => by rw [HFU.out] at q; exact absurd q.1 Bool.false_ne_true))
              by_cases hxh : x.h = h
              · skip
                have hq : decide (x.h = h) = true := decide_eq_true hxh
                have HGV : Hid (getV (putV r L x.h x.is) h = some x.is) := Lib.hid (by rw [HGP.out, if_pos hxh])
                clear hxh
                have hc33 := X_109.cell X33.out
                go_wp2_with (first
                  | ((with_reducible refine at_slot 100 ?_); (refine arm_want (.bool false) 100 rfl (by kernel_rfl) (cmp_neq _ _ .i64 (by kernel_rfl) _ _ rfl .i64 ((L.length : Int)) ((L.length : Int)) rfl rfl false (decide_eq_true rfl) _) ?_); try simp only [Act.put, List.setIfInBounds_toArray, List.set_cons_zero, List.set_cons_succ])
                  | ((with_reducible refine at_slot 110 ?_); (refine arm_load (o := ⟨some 110, _, _, _, _, _⟩) rfl _ _ rfl X 1 rfl (u8s x.h) (X1.out.range X_109) (szH KH.out) ?_); try simp only [Act.put, List.setIfInBounds_toArray, List.set_cons_zero, List.set_cons_succ])
                  | ((with_reducible refine at_slot 111 ?_); (refine arm_load (o := ⟨some 111, _, _, _, _, _⟩) rfl _ _ rfl H 0 rfl (u8s h) ((Has.refl _).range H_109) (szH KHH.out) ?_); try simp only [Act.put, List.setIfInBounds_toArray, List.set_cons_zero, List.set_cons_succ])
                  | ((with_reducible refine at_slot 112 ?_); (refine arm_want (.bool true) 112 rfl (by kernel_rfl) (run_op_eqlV _ _ _ rfl x.h h KH.out KHH.out rfl rfl true hq _) ?_); try simp only [Act.put, List.setIfInBounds_toArray, List.set_cons_zero, List.set_cons_succ])
                  | ((with_reducible refine at_slot 117 ?_); (refine fpause ?_); try simp only [Act.put, List.setIfInBounds_toArray, List.set_cons_zero, List.set_cons_succ]))
                clear hc33
                refine fgo ?_
                go_wp2_with (first
                  | ((with_reducible refine at_slot 117 ?_); (refine arm_load (o := ⟨some 117, _, _, _, _, _⟩) rfl _ _ rfl H 0 rfl (u8s h) ((Has.refl _).range H_109) (szH KHH.out) ?_); try simp only [Act.put, List.setIfInBounds_toArray, List.set_cons_zero, List.set_cons_succ]))
                refine (get_to (v := x.is) (s := true) V_109 KHH.out (by rw [HGV.out]; rfl) (by rw [HGV.out]; rfl)).mono ?_
                rintro e y111 ⟨rfl, hB⟩
                have V_112 : CAt y111 F2 B r (putV r L x.h x.is) := V_109.old hB
                have H_112 : Row y111 H 32 (u8s h) := H_109.old hB
                have X_112 : Row y111 X 34 (vac x) := X_109.old hB
                have A_112 : Row y111 A 32 (u8s (goneV r L x.h)) := rrA.old hB
                have bel_112 : Chg (fun _ => False) w y111 := bel_109.old hB
                clear V_109 H_109 X_109 rrA bel_109 hB
                go_wp2_with (first
                  | ((with_reducible refine at_slot 123 ?_); (refine arm_want (.bool false) 123 rfl (by kernel_rfl) (run_op_neqBB _ _ _ rfl (x.is) (x.is) rfl rfl false (bne_self_eq_false _) _) ?_); try simp only [Act.put, List.setIfInBounds_toArray, List.set_cons_zero, List.set_cons_succ])
                  | ((with_reducible refine at_slot 127 ?_); (refine arm_want (.bool false) 127 rfl (by kernel_rfl) (run_op_neqBB _ _ _ rfl (true) (true) rfl rfl false (bne_self_eq_false _) _) ?_); try simp only [Act.put, List.setIfInBounds_toArray, List.set_cons_zero, List.set_cons_succ]))
                refine (len_to V_112 rfl).mono ?_
                rintro e z113 ⟨rfl, rfl⟩
                go_wp2_with (first
                  | ((with_reducible refine at_slot 133 ?_); (refine arm_want (.bool false) 133 rfl (by kernel_rfl) (cmp_gtr _ _ _ _ rfl .i64 (((putV r L x.h x.is).length : Int)) ((r : Int)) rfl rfl false (HLR.out) _) ?_); try simp only [Act.put, List.setIfInBounds_toArray, List.set_cons_zero, List.set_cons_succ]))
                refine (known_any _ B r (putV r L x.h x.is) _ V_112 HR100.out).mono ?_
                rintro e y114 ⟨⟨q, cq, rfl, hq⟩, hB⟩
                have V_115 : CAt y114 F2 B r (putV r L x.h x.is) := V_112.old hB
                have H_115 : Row y114 H 32 (u8s h) := H_112.old hB
                have X_115 : Row y114 X 34 (vac x) := X_112.old hB
                have A_115 : Row y114 A 32 (u8s (goneV r L x.h)) := A_112.old hB
                have bel_115 : Chg (fun _ => False) w y114 := bel_112.old hB
                clear V_112 H_112 X_112 A_112 bel_112 hB
                go_wp2_with fail
                refine (len_to V_115 rfl).mono ?_
                rintro e z116 ⟨rfl, rfl⟩
                go_wp2_with (first
                  | ((with_reducible refine at_slot 141 ?_); (refine arm_want (.bool false) 141 rfl (by kernel_rfl) (cmp_neq _ _ .i64 (by kernel_rfl) _ _ rfl .i64 (((keys (putV r L x.h x.is)).length : Int)) (((putV r L x.h x.is).length : Int)) rfl rfl false (HKK.out) _) ?_); try simp only [Act.put, List.setIfInBounds_toArray, List.set_cons_zero, List.set_cons_succ]))
                go_roundw
                case rel => exact ⟨⟨k + 1, by omega, by go_num⟩, ⟨putV r L x.h x.is, F2, V_115, fr2, nH, by rw [HGV.out]; rfl, by rw [HGV.out]; rfl⟩, H_115, bel_115.below (fun k hk => hk.elim) (Nat.le_refl _)⟩
                case measure => simp [intOf]; omega
              · skip
                have hq : decide (x.h = h) = false := decide_eq_false hxh
                have HGV : Hid (getV (putV r L x.h x.is) h = ov) := Lib.hid (by rw [HGP.out, if_neg hxh, HNG.out, HOV.out])
                clear hxh
                go_wp2_with (first
                  | ((with_reducible refine at_slot 100 ?_); (refine arm_want (.bool false) 100 rfl (by kernel_rfl) (cmp_neq _ _ .i64 (by kernel_rfl) _ _ rfl .i64 ((L.length : Int)) ((L.length : Int)) rfl rfl false (decide_eq_true rfl) _) ?_); try simp only [Act.put, List.setIfInBounds_toArray, List.set_cons_zero, List.set_cons_succ])
                  | ((with_reducible refine at_slot 110 ?_); (refine arm_load (o := ⟨some 110, _, _, _, _, _⟩) rfl _ _ rfl X 1 rfl (u8s x.h) (X1.out.range X_109) (szH KH.out) ?_); try simp only [Act.put, List.setIfInBounds_toArray, List.set_cons_zero, List.set_cons_succ])
                  | ((with_reducible refine at_slot 111 ?_); (refine arm_load (o := ⟨some 111, _, _, _, _, _⟩) rfl _ _ rfl H 0 rfl (u8s h) ((Has.refl _).range H_109) (szH KHH.out) ?_); try simp only [Act.put, List.setIfInBounds_toArray, List.set_cons_zero, List.set_cons_succ])
                  | ((with_reducible refine at_slot 112 ?_); (refine arm_want (.bool false) 112 rfl (by kernel_rfl) (run_op_eqlV _ _ _ rfl x.h h KH.out KHH.out rfl rfl false hq _) ?_); try simp only [Act.put, List.setIfInBounds_toArray, List.set_cons_zero, List.set_cons_succ])
                  | ((with_reducible refine at_slot 117 ?_); (refine fpause ?_); try simp only [Act.put, List.setIfInBounds_toArray, List.set_cons_zero, List.set_cons_succ]))
                refine fgo ?_
                go_wp2_with (first
                  | ((with_reducible refine at_slot 117 ?_); (refine arm_load (o := ⟨some 117, _, _, _, _, _⟩) rfl _ _ rfl H 0 rfl (u8s h) ((Has.refl _).range H_109) (szH KHH.out) ?_); try simp only [Act.put, List.setIfInBounds_toArray, List.set_cons_zero, List.set_cons_succ]))
                refine (get_to (v := (ov.getD false)) (s := ov.isSome) V_109 KHH.out (by rw [HGV.out]) (by rw [HGV.out])).mono ?_
                rintro e y111 ⟨rfl, hB⟩
                have V_112 : CAt y111 F2 B r (putV r L x.h x.is) := V_109.old hB
                have H_112 : Row y111 H 32 (u8s h) := H_109.old hB
                have X_112 : Row y111 X 34 (vac x) := X_109.old hB
                have A_112 : Row y111 A 32 (u8s (goneV r L x.h)) := rrA.old hB
                have bel_112 : Chg (fun _ => False) w y111 := bel_109.old hB
                clear V_109 H_109 X_109 rrA bel_109 hB
                go_wp2_with (first
                  | ((with_reducible refine at_slot 123 ?_); (refine arm_want (.bool false) 123 rfl (by kernel_rfl) (run_op_neqBB _ _ _ rfl ((ov.getD false)) ((ov.getD false)) rfl rfl false (bne_self_eq_false _) _) ?_); try simp only [Act.put, List.setIfInBounds_toArray, List.set_cons_zero, List.set_cons_succ])
                  | ((with_reducible refine at_slot 127 ?_); (refine arm_want (.bool false) 127 rfl (by kernel_rfl) (run_op_neqBB _ _ _ rfl (ov.isSome) (ov.isSome) rfl rfl false (bne_self_eq_false _) _) ?_); try simp only [Act.put, List.setIfInBounds_toArray, List.set_cons_zero, List.set_cons_succ]))
                refine (len_to V_112 rfl).mono ?_
                rintro e z113 ⟨rfl, rfl⟩
                go_wp2_with (first
                  | ((with_reducible refine at_slot 133 ?_); (refine arm_want (.bool false) 133 rfl (by kernel_rfl) (cmp_gtr _ _ _ _ rfl .i64 (((putV r L x.h x.is).length : Int)) ((r : Int)) rfl rfl false (HLR.out) _) ?_); try simp only [Act.put, List.setIfInBounds_toArray, List.set_cons_zero, List.set_cons_succ]))
                refine (known_any _ B r (putV r L x.h x.is) _ V_112 HR100.out).mono ?_
                rintro e y114 ⟨⟨q, cq, rfl, hq⟩, hB⟩
                have V_115 : CAt y114 F2 B r (putV r L x.h x.is) := V_112.old hB
                have H_115 : Row y114 H 32 (u8s h) := H_112.old hB
                have X_115 : Row y114 X 34 (vac x) := X_112.old hB
                have A_115 : Row y114 A 32 (u8s (goneV r L x.h)) := A_112.old hB
                have bel_115 : Chg (fun _ => False) w y114 := bel_112.old hB
                clear V_112 H_112 X_112 A_112 bel_112 hB
                go_wp2_with fail
                refine (len_to V_115 rfl).mono ?_
                rintro e z116 ⟨rfl, rfl⟩
                go_wp2_with (first
                  | ((with_reducible refine at_slot 141 ?_); (refine arm_want (.bool false) 141 rfl (by kernel_rfl) (cmp_neq _ _ .i64 (by kernel_rfl) _ _ rfl .i64 (((keys (putV r L x.h x.is)).length : Int)) (((putV r L x.h x.is).length : Int)) rfl rfl false (HKK.out) _) ?_); try simp only [Act.put, List.setIfInBounds_toArray, List.set_cons_zero, List.set_cons_succ]))
                go_roundw
                case rel => exact ⟨⟨k + 1, by omega, by go_num⟩, ⟨putV r L x.h x.is, F2, V_115, fr2, nH, by rw [HGV.out], by rw [HGV.out]⟩, H_115, bel_115.below (fun k hk => hk.elim) (Nat.le_refl _)⟩
                case measure => simp [intOf]; omega
            · by_cases hl : L.length < r
              · skip
                have HKN : Hid ((getV L x.h).isSome = false) := Lib.hid (by rw [get_none hi]; rfl)
                have HFU : Hid (fullV r L x.h = false) := Lib.hid (full_room hl)
                have HLE : Hid ((putV r L x.h x.is).length = L.length + 1) := Lib.hid (by rw [put_room hi hl, List.length_append, List.length_singleton])
                have HLQ : Hid (decide ((L.length : Int) = (r : Int)) = false) := Lib.hid (decide_eq_false (by omega))
                have HWR : Hid (IntKind.i64.wrap ((L.length : Int) + 1) = ((L.length + 1 : Nat) : Int)) := Lib.hid (by rw [IntKind.wrap_i64]; have := HR100.out; omega)
                clear hi hl
                have hc0 := rrX.cell X0.out
                go_wp2_with (first
                  | ((with_reducible refine at_slot 42 ?_); (refine arm_want (.bool false) 42 rfl (by kernel_rfl) (cmp_neq _ _ .i64 (by kernel_rfl) _ _ rfl .i64 (d) (0) rfl rfl false (decide_eq_true h0) _) ?_); try simp only [Act.put, List.setIfInBounds_toArray, List.set_cons_zero, List.set_cons_succ])
                  | ((with_reducible refine at_slot 46 ?_); (refine arm_load (o := ⟨some 46, _, _, _, _, _⟩) rfl _ _ rfl X 1 rfl (u8s x.h) (X1.out.range rrX) (szH KH.out) ?_); try simp only [Act.put, List.setIfInBounds_toArray, List.set_cons_zero, List.set_cons_succ]))
                clear hc0
                refine (get_to (v := (getV L x.h).getD false) (s := false) V_102 KH.out rfl HKN.out).mono ?_
                rintro e y103 ⟨rfl, hB⟩
                have V_104 : CAt y103 F B r (L) := V_102.old hB
                have H_104 : Row y103 H 32 (u8s h) := H_102.old hB
                have X_104 : Row y103 X 34 (vac x) := rrX.old hB
                have bel_104 : Chg (fun _ => False) w y103 := bel_102.old hB
                clear V_102 H_102 rrX bel_102 hB
                go_wp2_with fail
                refine (len_to V_104 rfl).mono ?_
                rintro e z105 ⟨rfl, rfl⟩
                have hc33 := X_104.cell X33.out
                go_wp2_with (first
                  | ((with_reducible refine at_slot 55 ?_); (refine arm_load (o := ⟨some 55, _, _, _, _, _⟩) rfl _ _ rfl X 1 rfl (u8s x.h) (X1.out.range X_104) (szH KH.out) ?_); try simp only [Act.put, List.setIfInBounds_toArray, List.set_cons_zero, List.set_cons_succ]))
                clear hc33
                have HGO := Lib.hid (gone_ok V_104.ok x.h)
                have HPO := Lib.hid (put_ok V_104.ok KH.out x.is)
                have HPL := Lib.hid (len_put V_104.ok x.h x.is)
                have HGP := Lib.hid (get_put V_104.ok x.h x.is h)
                refine (put_to V_104 KH.out HR100.out rfl rfl HFU.out).mono ?_
                rintro e yP106 ⟨rfl, ⟨F2, hV2, hG2⟩, hc⟩
                have mH := notF_grew nH hG2 H_104.lt
                have mX := notF_grew nX hG2 X_104.lt
                have fr2 := hG2.from fr bel_104.size
                have V_107 : CAt yP106 F2 B r (putV r L x.h x.is) := hV2
                have H_107 : Row yP106 H 32 (u8s h) := H_104.chg hc nH
                have X_107 : Row yP106 X 34 (vac x) := X_104.chg hc nX
                have bel_107 : Chg (fun _ => False) w yP106 := bel_104.fresh hc fr
                clear V_104 H_104 X_104 bel_104 hc
                clear nH
                have nH := mH
                clear mH
                clear nX
                have nX := mX
                clear mX
                clear hG2
                have HLR : Hid (decide ((r : Int) < ((putV r L x.h x.is).length : Int)) = false) := Lib.hid (decide_eq_false (by have := HPO.out.len; omega))
                have HKK : Hid (decide (((keys (putV r L x.h x.is)).length : Int) = ((putV r L x.h x.is).length : Int)) = !false) := Lib.hid (decide_eq_true (by rw [keys_len]))
                have hlV := Lib.hid V_107.lies
                go_wp2_with (first
                  | ((with_reducible refine at_slot 16 ?_); (refine arm_alloc (o := ⟨some 16, _, _, _, _, _⟩) rfl _ rfl (u8s zh) zH ?_); intro A v108a Ae hAa nA; try simp only [Act.put, List.setIfInBounds_toArray, List.set_cons_zero, List.set_cons_succ])
                  | ((with_reducible refine arm_store (o := ⟨none, _, _, _, _, _⟩) rfl _ _ _ rfl A 0 rfl (u8s (goneV r L x.h)) rfl _ _ hAa (fitH HGO.out) (u8s_one _) (szH HGO.out) ?_); intro v108 hAb oA sA; try simp only [Act.put, List.setIfInBounds_toArray, List.set_cons_zero, List.set_cons_succ]; refine fpause ?_; try simp only [Act.put, List.setIfInBounds_toArray, List.set_cons_zero, List.set_cons_succ]))
                have lA : yP106.heap.size ≤ A := by have := Ae.out; omega
                have bA : Below yP106.heap.size yP106 v108 := below_only nA.below oA lA nA.below.size
                have rrA : Row v108 A 32 (u8s (goneV r L x.h)) := hAb.congr (allH HGO.out)
                have geA : w.heap.size ≤ A := Nat.le_trans bel_107.size lA
                have lAx := lA
                clear hAa hAb nA oA sA Ae lA
                have V_109 : CAt v108 F2 B r (putV r L x.h x.is) := V_107.old bA
                have H_109 : Row v108 H 32 (u8s h) := H_107.old bA
                have X_109 : Row v108 X 34 (vac x) := X_107.old bA
                have bel_109 : Chg (fun _ => False) w v108 := bel_107.old bA
                clear V_107 H_107 X_107 bel_107 bA
                refine fgo ?_
                clear hlV
                go_wp2_with (first
                  | ((with_reducible refine at_slot 67 ?_); (refine arm_want (.bool false) 67 rfl (by kernel_rfl) (cmp_eql _ _ .i64 (by kernel_rfl) _ _ rfl .i64 ((L.length : Int)) ((r : Int)) rfl rfl false (HLQ.out) _) ?_); try simp only [Act.put, List.setIfInBounds_toArray, List.set_cons_zero, List.set_cons_succ])
                  | ((with_reducible refine at_slot 69 ?_); (refine arm_want (.bool false) 69 rfl (by kernel_rfl) (run_op_neqBB _ _ _ rfl false false rfl rfl false rfl _) ?_); try simp only [Act.put, List.setIfInBounds_toArray, List.set_cons_zero, List.set_cons_succ]))
                refine (len_to (n := L.length + 1) V_109 HLE.out).mono ?_
                rintro e z110 ⟨rfl, rfl⟩
                have HNG : Hid ((if fullV r L x.h = true ∧ goneV r L x.h = h then none else getV L h) = getV L h) := Lib.hid (if_neg (fun q => by rw [HFU.out] at q; exact absurd q.1 Bool.false_ne_true))
                by_cases hxh : x.h = h
                · skip
                  have hq : decide (x.h = h) = true := decide_eq_true hxh
                  have HGV : Hid (getV (putV r L x.h x.is) h = some x.is) := Lib.hid (by rw [HGP.out, if_pos hxh])
                  clear hxh
                  have hc33 := X_109.cell X33.out
                  go_wp2_with (first
                    | ((with_reducible refine at_slot 90 ?_); (refine arm_want (.int .i64 ((L.length + 1 : Nat) : Int)) 90 rfl (by kernel_rfl) (run_op_addN _ _ _ _ rfl (L.length : Int) 1 ((L.length + 1 : Nat) : Int) rfl rfl HWR.out _) ?_); try simp only [Act.put, List.setIfInBounds_toArray, List.set_cons_zero, List.set_cons_succ])
                    | ((with_reducible refine at_slot 91 ?_); (refine arm_want (.bool false) 91 rfl (by kernel_rfl) (cmp_neq _ _ .i64 (by kernel_rfl) _ _ rfl .i64 (((L.length + 1 : Nat) : Int)) (((L.length + 1 : Nat) : Int)) rfl rfl false (decide_eq_true rfl) _) ?_); try simp only [Act.put, List.setIfInBounds_toArray, List.set_cons_zero, List.set_cons_succ])
                    | ((with_reducible refine at_slot 110 ?_); (refine arm_load (o := ⟨some 110, _, _, _, _, _⟩) rfl _ _ rfl X 1 rfl (u8s x.h) (X1.out.range X_109) (szH KH.out) ?_); try simp only [Act.put, List.setIfInBounds_toArray, List.set_cons_zero, List.set_cons_succ])
                    | ((with_reducible refine at_slot 111 ?_); (refine arm_load (o := ⟨some 111, _, _, _, _, _⟩) rfl _ _ rfl H 0 rfl (u8s h) ((Has.refl _).range H_109) (szH KHH.out) ?_); try simp only [Act.put, List.setIfInBounds_toArray, List.set_cons_zero, List.set_cons_succ])
                    | ((with_reducible refine at_slot 112 ?_); (refine arm_want (.bool true) 112 rfl (by kernel_rfl) (run_op_eqlV _ _ _ rfl x.h h KH.out KHH.out rfl rfl true hq _) ?_); try simp only [Act.put, List.setIfInBounds_toArray, List.set_cons_zero, List.set_cons_succ])
                    | ((with_reducible refine at_slot 117 ?_); (refine fpause ?_); try simp only [Act.put, List.setIfInBounds_toArray, List.set_cons_zero, List.set_cons_succ]))
                  clear hc33
                  refine fgo ?_
                  go_wp2_with (first
                    | ((with_reducible refine at_slot 117 ?_); (refine arm_load (o := ⟨some 117, _, _, _, _, _⟩) rfl _ _ rfl H 0 rfl (u8s h) ((Has.refl _).range H_109) (szH KHH.out) ?_); try simp only [Act.put, List.setIfInBounds_toArray, List.set_cons_zero, List.set_cons_succ]))
                  refine (get_to (v := x.is) (s := true) V_109 KHH.out (by rw [HGV.out]; rfl) (by rw [HGV.out]; rfl)).mono ?_
                  rintro e y111 ⟨rfl, hB⟩
                  have V_112 : CAt y111 F2 B r (putV r L x.h x.is) := V_109.old hB
                  have H_112 : Row y111 H 32 (u8s h) := H_109.old hB
                  have X_112 : Row y111 X 34 (vac x) := X_109.old hB
                  have A_112 : Row y111 A 32 (u8s (goneV r L x.h)) := rrA.old hB
                  have bel_112 : Chg (fun _ => False) w y111 := bel_109.old hB
                  clear V_109 H_109 X_109 rrA bel_109 hB
                  go_wp2_with (first
                    | ((with_reducible refine at_slot 123 ?_); (refine arm_want (.bool false) 123 rfl (by kernel_rfl) (run_op_neqBB _ _ _ rfl (x.is) (x.is) rfl rfl false (bne_self_eq_false _) _) ?_); try simp only [Act.put, List.setIfInBounds_toArray, List.set_cons_zero, List.set_cons_succ])
                    | ((with_reducible refine at_slot 127 ?_); (refine arm_want (.bool false) 127 rfl (by kernel_rfl) (run_op_neqBB _ _ _ rfl (true) (true) rfl rfl false (bne_self_eq_false _) _) ?_); try simp only [Act.put, List.setIfInBounds_toArray, List.set_cons_zero, List.set_cons_succ]))
                  refine (len_to V_112 rfl).mono ?_
                  rintro e z113 ⟨rfl, rfl⟩
                  go_wp2_with (first
                    | ((with_reducible refine at_slot 133 ?_); (refine arm_want (.bool false) 133 rfl (by kernel_rfl) (cmp_gtr _ _ _ _ rfl .i64 (((putV r L x.h x.is).length : Int)) ((r : Int)) rfl rfl false (HLR.out) _) ?_); try simp only [Act.put, List.setIfInBounds_toArray, List.set_cons_zero, List.set_cons_succ]))
                  refine (known_any _ B r (putV r L x.h x.is) _ V_112 HR100.out).mono ?_
                  rintro e y114 ⟨⟨q, cq, rfl, hq⟩, hB⟩
                  have V_115 : CAt y114 F2 B r (putV r L x.h x.is) := V_112.old hB
                  have H_115 : Row y114 H 32 (u8s h) := H_112.old hB
                  have X_115 : Row y114 X 34 (vac x) := X_112.old hB
                  have A_115 : Row y114 A 32 (u8s (goneV r L x.h)) := A_112.old hB
                  have bel_115 : Chg (fun _ => False) w y114 := bel_112.old hB
                  clear V_112 H_112 X_112 A_112 bel_112 hB
                  go_wp2_with fail
                  refine (len_to V_115 rfl).mono ?_
                  rintro e z116 ⟨rfl, rfl⟩
                  go_wp2_with (first
                    | ((with_reducible refine at_slot 141 ?_); (refine arm_want (.bool false) 141 rfl (by kernel_rfl) (cmp_neq _ _ .i64 (by kernel_rfl) _ _ rfl .i64 (((keys (putV r L x.h x.is)).length : Int)) (((putV r L x.h x.is).length : Int)) rfl rfl false (HKK.out) _) ?_); try simp only [Act.put, List.setIfInBounds_toArray, List.set_cons_zero, List.set_cons_succ]))
                  go_roundw
                  case rel => exact ⟨⟨k + 1, by omega, by go_num⟩, ⟨putV r L x.h x.is, F2, V_115, fr2, nH, by rw [HGV.out]; rfl, by rw [HGV.out]; rfl⟩, H_115, bel_115.below (fun k hk => hk.elim) (Nat.le_refl _)⟩
                  case measure => simp [intOf]; omega
                · skip
                  have hq : decide (x.h = h) = false := decide_eq_false hxh
                  have HGV : Hid (getV (putV r L x.h x.is) h = ov) := Lib.hid (by rw [HGP.out, if_neg hxh, HNG.out, HOV.out])
                  clear hxh
                  go_wp2_with (first
                    | ((with_reducible refine at_slot 90 ?_); (refine arm_want (.int .i64 ((L.length + 1 : Nat) : Int)) 90 rfl (by kernel_rfl) (run_op_addN _ _ _ _ rfl (L.length : Int) 1 ((L.length + 1 : Nat) : Int) rfl rfl HWR.out _) ?_); try simp only [Act.put, List.setIfInBounds_toArray, List.set_cons_zero, List.set_cons_succ])
                    | ((with_reducible refine at_slot 91 ?_); (refine arm_want (.bool false) 91 rfl (by kernel_rfl) (cmp_neq _ _ .i64 (by kernel_rfl) _ _ rfl .i64 (((L.length + 1 : Nat) : Int)) (((L.length + 1 : Nat) : Int)) rfl rfl false (decide_eq_true rfl) _) ?_); try simp only [Act.put, List.setIfInBounds_toArray, List.set_cons_zero, List.set_cons_succ])
                    | ((with_reducible refine at_slot 110 ?_); (refine arm_load (o := ⟨some 110, _, _, _, _, _⟩) rfl _ _ rfl X 1 rfl (u8s x.h) (X1.out.range X_109) (szH KH.out) ?_); try simp only [Act.put, List.setIfInBounds_toArray, List.set_cons_zero, List.set_cons_succ])
                    | ((with_reducible refine at_slot 111 ?_); (refine arm_load (o := ⟨some 111, _, _, _, _, _⟩) rfl _ _ rfl H 0 rfl (u8s h) ((Has.refl _).range H_109) (szH KHH.out) ?_); try simp only [Act.put, List.setIfInBounds_toArray, List.set_cons_zero, List.set_cons_succ])
                    | ((with_reducible refine at_slot 112 ?_); (refine arm_want (.bool false) 112 rfl (by kernel_rfl) (run_op_eqlV _ _ _ rfl x.h h KH.out KHH.out rfl rfl false hq _) ?_); try simp only [Act.put, List.setIfInBounds_toArray, List.set_cons_zero, List.set_cons_succ])
                    | ((with_reducible refine at_slot 117 ?_); (refine fpause ?_); try simp only [Act.put, List.setIfInBounds_toArray, List.set_cons_zero, List.set_cons_succ]))
                  refine fgo ?_
                  go_wp2_with (first
                    | ((with_reducible refine at_slot 117 ?_); (refine arm_load (o := ⟨some 117, _, _, _, _, _⟩) rfl _ _ rfl H 0 rfl (u8s h) ((Has.refl _).range H_109) (szH KHH.out) ?_); try simp only [Act.put, List.setIfInBounds_toArray, List.set_cons_zero, List.set_cons_succ]))
                  refine (get_to (v := (ov.getD false)) (s := ov.isSome) V_109 KHH.out (by rw [HGV.out]) (by rw [HGV.out])).mono ?_
                  rintro e y111 ⟨rfl, hB⟩
                  have V_112 : CAt y111 F2 B r (putV r L x.h x.is) := V_109.old hB
                  have H_112 : Row y111 H 32 (u8s h) := H_109.old hB
                  have X_112 : Row y111 X 34 (vac x) := X_109.old hB
                  have A_112 : Row y111 A 32 (u8s (goneV r L x.h)) := rrA.old hB
                  have bel_112 : Chg (fun _ => False) w y111 := bel_109.old hB
                  clear V_109 H_109 X_109 rrA bel_109 hB
                  go_wp2_with (first
                    | ((with_reducible refine at_slot 123 ?_); (refine arm_want (.bool false) 123 rfl (by kernel_rfl) (run_op_neqBB _ _ _ rfl ((ov.getD false)) ((ov.getD false)) rfl rfl false (bne_self_eq_false _) _) ?_); try simp only [Act.put, List.setIfInBounds_toArray, List.set_cons_zero, List.set_cons_succ])
                    | ((with_reducible refine at_slot 127 ?_); (refine arm_want (.bool false) 127 rfl (by kernel_rfl) (run_op_neqBB _ _ _ rfl (ov.isSome) (ov.isSome) rfl rfl false (bne_self_eq_false _) _) ?_); try simp only [Act.put, List.setIfInBounds_toArray, List.set_cons_zero, List.set_cons_succ]))
                  refine (len_to V_112 rfl).mono ?_
                  rintro e z113 ⟨rfl, rfl⟩
                  go_wp2_with (first
                    | ((with_reducible refine at_slot 133 ?_); (refine arm_want (.bool false) 133 rfl (by kernel_rfl) (cmp_gtr _ _ _ _ rfl .i64 (((putV r L x.h x.is).length : Int)) ((r : Int)) rfl rfl false (HLR.out) _) ?_); try simp only [Act.put, List.setIfInBounds_toArray, List.set_cons_zero, List.set_cons_succ]))
                  refine (known_any _ B r (putV r L x.h x.is) _ V_112 HR100.out).mono ?_
                  rintro e y114 ⟨⟨q, cq, rfl, hq⟩, hB⟩
                  have V_115 : CAt y114 F2 B r (putV r L x.h x.is) := V_112.old hB
                  have H_115 : Row y114 H 32 (u8s h) := H_112.old hB
                  have X_115 : Row y114 X 34 (vac x) := X_112.old hB
                  have A_115 : Row y114 A 32 (u8s (goneV r L x.h)) := A_112.old hB
                  have bel_115 : Chg (fun _ => False) w y114 := bel_112.old hB
                  clear V_112 H_112 X_112 A_112 bel_112 hB
                  go_wp2_with fail
                  refine (len_to V_115 rfl).mono ?_
                  rintro e z116 ⟨rfl, rfl⟩
                  go_wp2_with (first
                    | ((with_reducible refine at_slot 141 ?_); (refine arm_want (.bool false) 141 rfl (by kernel_rfl) (cmp_neq _ _ .i64 (by kernel_rfl) _ _ rfl .i64 (((keys (putV r L x.h x.is)).length : Int)) (((putV r L x.h x.is).length : Int)) rfl rfl false (HKK.out) _) ?_); try simp only [Act.put, List.setIfInBounds_toArray, List.set_cons_zero, List.set_cons_succ]))
                  go_roundw
                  case rel => exact ⟨⟨k + 1, by omega, by go_num⟩, ⟨putV r L x.h x.is, F2, V_115, fr2, nH, by rw [HGV.out], by rw [HGV.out]⟩, H_115, bel_115.below (fun k hk => hk.elim) (Nat.le_refl _)⟩
                  case measure => simp [intOf]; omega
              · skip
                have HKN : Hid ((getV L x.h).isSome = false) := Lib.hid (by rw [get_none hi]; rfl)
                have HFU : Hid (fullV r L x.h = true) := Lib.hid (full_yes hi hl)
                have HLE : Hid ((putV r L x.h x.is).length = L.length) := Lib.hid (by rw [len_put V_102.ok, if_pos (.inr HFU.out)])
                have HLQ : Hid (decide ((L.length : Int) = (r : Int)) = true) := Lib.hid (decide_eq_true (by have := V_102.ok.len; omega))
                clear hi hl
                have hc0 := rrX.cell X0.out
                go_wp2_with (first
                  | ((with_reducible refine at_slot 42 ?_); (refine arm_want (.bool false) 42 rfl (by kernel_rfl) (cmp_neq _ _ .i64 (by kernel_rfl) _ _ rfl .i64 (d) (0) rfl rfl false (decide_eq_true h0) _) ?_); try simp only [Act.put, List.setIfInBounds_toArray, List.set_cons_zero, List.set_cons_succ])
                  | ((with_reducible refine at_slot 46 ?_); (refine arm_load (o := ⟨some 46, _, _, _, _, _⟩) rfl _ _ rfl X 1 rfl (u8s x.h) (X1.out.range rrX) (szH KH.out) ?_); try simp only [Act.put, List.setIfInBounds_toArray, List.set_cons_zero, List.set_cons_succ]))
                clear hc0
                refine (get_to (v := (getV L x.h).getD false) (s := false) V_102 KH.out rfl HKN.out).mono ?_
                rintro e y103 ⟨rfl, hB⟩
                have V_104 : CAt y103 F B r (L) := V_102.old hB
                have H_104 : Row y103 H 32 (u8s h) := H_102.old hB
                have X_104 : Row y103 X 34 (vac x) := rrX.old hB
                have bel_104 : Chg (fun _ => False) w y103 := bel_102.old hB
                clear V_102 H_102 rrX bel_102 hB
                go_wp2_with fail
                refine (len_to V_104 rfl).mono ?_
                rintro e z105 ⟨rfl, rfl⟩
                have hc33 := X_104.cell X33.out
                go_wp2_with (first
                  | ((with_reducible refine at_slot 55 ?_); (refine arm_load (o := ⟨some 55, _, _, _, _, _⟩) rfl _ _ rfl X 1 rfl (u8s x.h) (X1.out.range X_104) (szH KH.out) ?_); try simp only [Act.put, List.setIfInBounds_toArray, List.set_cons_zero, List.set_cons_succ]))
                clear hc33
                have HGO := Lib.hid (gone_ok V_104.ok x.h)
                have HPO := Lib.hid (put_ok V_104.ok KH.out x.is)
                have HPL := Lib.hid (len_put V_104.ok x.h x.is)
                have HGP := Lib.hid (get_put V_104.ok x.h x.is h)
                refine (put_to V_104 KH.out HR100.out rfl rfl HFU.out).mono ?_
                rintro e yP106 ⟨rfl, ⟨F2, hV2, hG2⟩, hc⟩
                have mH := notF_grew nH hG2 H_104.lt
                have mX := notF_grew nX hG2 X_104.lt
                have fr2 := hG2.from fr bel_104.size
                have V_107 : CAt yP106 F2 B r (putV r L x.h x.is) := hV2
                have H_107 : Row yP106 H 32 (u8s h) := H_104.chg hc nH
                have X_107 : Row yP106 X 34 (vac x) := X_104.chg hc nX
                have bel_107 : Chg (fun _ => False) w yP106 := bel_104.fresh hc fr
                clear V_104 H_104 X_104 bel_104 hc
                clear nH
                have nH := mH
                clear mH
                clear nX
                have nX := mX
                clear mX
                clear hG2
                have HLR : Hid (decide ((r : Int) < ((putV r L x.h x.is).length : Int)) = false) := Lib.hid (decide_eq_false (by have := HPO.out.len; omega))
                have HKK : Hid (decide (((keys (putV r L x.h x.is)).length : Int) = ((putV r L x.h x.is).length : Int)) = !false) := Lib.hid (decide_eq_true (by rw [keys_len]))
                have hlV := Lib.hid V_107.lies
                go_wp2_with (first
                  | ((with_reducible refine at_slot 16 ?_); (refine arm_alloc (o := ⟨some 16, _, _, _, _, _⟩) rfl _ rfl (u8s zh) zH ?_); intro A v108a Ae hAa nA; try simp only [Act.put, List.setIfInBounds_toArray, List.set_cons_zero, List.set_cons_succ])
                  | ((with_reducible refine arm_store (o := ⟨none, _, _, _, _, _⟩) rfl _ _ _ rfl A 0 rfl (u8s (goneV r L x.h)) rfl _ _ hAa (fitH HGO.out) (u8s_one _) (szH HGO.out) ?_); intro v108 hAb oA sA; try simp only [Act.put, List.setIfInBounds_toArray, List.set_cons_zero, List.set_cons_succ]; refine fpause ?_; try simp only [Act.put, List.setIfInBounds_toArray, List.set_cons_zero, List.set_cons_succ]))
                have lA : yP106.heap.size ≤ A := by have := Ae.out; omega
                have bA : Below yP106.heap.size yP106 v108 := below_only nA.below oA lA nA.below.size
                have rrA : Row v108 A 32 (u8s (goneV r L x.h)) := hAb.congr (allH HGO.out)
                have geA : w.heap.size ≤ A := Nat.le_trans bel_107.size lA
                have lAx := lA
                clear hAa hAb nA oA sA Ae lA
                have V_109 : CAt v108 F2 B r (putV r L x.h x.is) := V_107.old bA
                have H_109 : Row v108 H 32 (u8s h) := H_107.old bA
                have X_109 : Row v108 X 34 (vac x) := X_107.old bA
                have bel_109 : Chg (fun _ => False) w v108 := bel_107.old bA
                clear V_107 H_107 X_107 bel_107 bA
                refine fgo ?_
                clear hlV
                go_wp2_with (first
                  | ((with_reducible refine at_slot 67 ?_); (refine arm_want (.bool true) 67 rfl (by kernel_rfl) (cmp_eql _ _ .i64 (by kernel_rfl) _ _ rfl .i64 ((L.length : Int)) ((r : Int)) rfl rfl true (HLQ.out) _) ?_); try simp only [Act.put, List.setIfInBounds_toArray, List.set_cons_zero, List.set_cons_succ])
                  | ((with_reducible refine at_slot 69 ?_); (refine arm_want (.bool false) 69 rfl (by kernel_rfl) (run_op_neqBB _ _ _ rfl true true rfl rfl false rfl _) ?_); try simp only [Act.put, List.setIfInBounds_toArray, List.set_cons_zero, List.set_cons_succ]))
                refine (len_to (n := L.length) V_109 HLE.out).mono ?_
                rintro e z110 ⟨rfl, rfl⟩
                by_cases hgh : goneV r L x.h = h
                · skip
                  have hq2 : decide (goneV r L x.h = h) = true := decide_eq_true hgh
                  have HNG : Hid ((if fullV r L x.h = true ∧ goneV r L x.h = h then none else getV L h) = none) := Lib.hid (if_pos ⟨HFU.out, hgh⟩)
                  clear hgh
                  by_cases hxh : x.h = h
                  · skip
                    have hq : decide (x.h = h) = true := decide_eq_true hxh
                    have HGV : Hid (getV (putV r L x.h x.is) h = some x.is) := Lib.hid (by rw [HGP.out, if_pos hxh])
                    clear hxh
                    have hc33 := X_109.cell X33.out
                    go_wp2_with (first
                      | ((with_reducible refine at_slot 76 ?_); (refine arm_want (.bool false) 76 rfl (by kernel_rfl) (cmp_neq _ _ .i64 (by kernel_rfl) _ _ rfl .i64 ((L.length : Int)) ((L.length : Int)) rfl rfl false (decide_eq_true rfl) _) ?_); try simp only [Act.put, List.setIfInBounds_toArray, List.set_cons_zero, List.set_cons_succ])
                      | ((with_reducible refine at_slot 105 ?_); (refine arm_want (.agg (u8s (goneV r L x.h)).toArray) 105 rfl (by kernel_rfl) (run_op_load _ _ rfl A 0 rfl (u8s (goneV r L x.h)) ((Has.refl _).range rrA) (szH HGO.out)) ?_); try simp only [Act.put, List.setIfInBounds_toArray, List.set_cons_zero, List.set_cons_succ])
                      | ((with_reducible refine at_slot 106 ?_); (refine arm_want (.agg (u8s h).toArray) 106 rfl (by kernel_rfl) (run_op_load _ _ rfl H 0 rfl (u8s h) ((Has.refl _).range H_109) (szH KHH.out)) ?_); try simp only [Act.put, List.setIfInBounds_toArray, List.set_cons_zero, List.set_cons_succ])
                      | ((with_reducible refine at_slot 107 ?_); (refine arm_want (.bool true) 107 rfl (by kernel_rfl) (run_op_eqlV _ _ _ rfl (goneV r L x.h) h HGO.out KHH.out rfl rfl true hq2 _) ?_); try simp only [Act.put, List.setIfInBounds_toArray, List.set_cons_zero, List.set_cons_succ])
                      | ((with_reducible refine at_slot 110 ?_); (refine arm_load (o := ⟨some 110, _, _, _, _, _⟩) rfl _ _ rfl X 1 rfl (u8s x.h) (X1.out.range X_109) (szH KH.out) ?_); try simp only [Act.put, List.setIfInBounds_toArray, List.set_cons_zero, List.set_cons_succ])
                      | ((with_reducible refine at_slot 111 ?_); (refine arm_load (o := ⟨some 111, _, _, _, _, _⟩) rfl _ _ rfl H 0 rfl (u8s h) ((Has.refl _).range H_109) (szH KHH.out) ?_); try simp only [Act.put, List.setIfInBounds_toArray, List.set_cons_zero, List.set_cons_succ])
                      | ((with_reducible refine at_slot 112 ?_); (refine arm_want (.bool true) 112 rfl (by kernel_rfl) (run_op_eqlV _ _ _ rfl x.h h KH.out KHH.out rfl rfl true hq _) ?_); try simp only [Act.put, List.setIfInBounds_toArray, List.set_cons_zero, List.set_cons_succ])
                      | ((with_reducible refine at_slot 117 ?_); (refine fpause ?_); try simp only [Act.put, List.setIfInBounds_toArray, List.set_cons_zero, List.set_cons_succ]))
                    clear hc33
                    refine fgo ?_
                    go_wp2_with (first
                      | ((with_reducible refine at_slot 117 ?_); (refine arm_load (o := ⟨some 117, _, _, _, _, _⟩) rfl _ _ rfl H 0 rfl (u8s h) ((Has.refl _).range H_109) (szH KHH.out) ?_); try simp only [Act.put, List.setIfInBounds_toArray, List.set_cons_zero, List.set_cons_succ]))
                    refine (get_to (v := x.is) (s := true) V_109 KHH.out (by rw [HGV.out]; rfl) (by rw [HGV.out]; rfl)).mono ?_
                    rintro e y111 ⟨rfl, hB⟩
                    have V_112 : CAt y111 F2 B r (putV r L x.h x.is) := V_109.old hB
                    have H_112 : Row y111 H 32 (u8s h) := H_109.old hB
                    have X_112 : Row y111 X 34 (vac x) := X_109.old hB
                    have A_112 : Row y111 A 32 (u8s (goneV r L x.h)) := rrA.old hB
                    have bel_112 : Chg (fun _ => False) w y111 := bel_109.old hB
                    clear V_109 H_109 X_109 rrA bel_109 hB
                    go_wp2_with (first
                      | ((with_reducible refine at_slot 123 ?_); (refine arm_want (.bool false) 123 rfl (by kernel_rfl) (run_op_neqBB _ _ _ rfl (x.is) (x.is) rfl rfl false (bne_self_eq_false _) _) ?_); try simp only [Act.put, List.setIfInBounds_toArray, List.set_cons_zero, List.set_cons_succ])
                      | ((with_reducible refine at_slot 127 ?_); (refine arm_want (.bool false) 127 rfl (by kernel_rfl) (run_op_neqBB _ _ _ rfl (true) (true) rfl rfl false (bne_self_eq_false _) _) ?_); try simp only [Act.put, List.setIfInBounds_toArray, List.set_cons_zero, List.set_cons_succ]))
                    refine (len_to V_112 rfl).mono ?_
                    rintro e z113 ⟨rfl, rfl⟩
                    go_wp2_with (first
                      | ((with_reducible refine at_slot 133 ?_); (refine arm_want (.bool false) 133 rfl (by kernel_rfl) (cmp_gtr _ _ _ _ rfl .i64 (((putV r L x.h x.is).length : Int)) ((r : Int)) rfl rfl false (HLR.out) _) ?_); try simp only [Act.put, List.setIfInBounds_toArray, List.set_cons_zero, List.set_cons_succ]))
                    refine (known_any _ B r (putV r L x.h x.is) _ V_112 HR100.out).mono ?_
                    rintro e y114 ⟨⟨q, cq, rfl, hq⟩, hB⟩
                    have V_115 : CAt y114 F2 B r (putV r L x.h x.is) := V_112.old hB
                    have H_115 : Row y114 H 32 (u8s h) := H_112.old hB
                    have X_115 : Row y114 X 34 (vac x) := X_112.old hB
                    have A_115 : Row y114 A 32 (u8s (goneV r L x.h)) := A_112.old hB
                    have bel_115 : Chg (fun _ => False) w y114 := bel_112.old hB
                    clear V_112 H_112 X_112 A_112 bel_112 hB
                    go_wp2_with fail
                    refine (len_to V_115 rfl).mono ?_
                    rintro e z116 ⟨rfl, rfl⟩
                    go_wp2_with (first
                      | ((with_reducible refine at_slot 141 ?_); (refine arm_want (.bool false) 141 rfl (by kernel_rfl) (cmp_neq _ _ .i64 (by kernel_rfl) _ _ rfl .i64 (((keys (putV r L x.h x.is)).length : Int)) (((putV r L x.h x.is).length : Int)) rfl rfl false (HKK.out) _) ?_); try simp only [Act.put, List.setIfInBounds_toArray, List.set_cons_zero, List.set_cons_succ]))
                    go_roundw
                    case rel => exact ⟨⟨k + 1, by omega, by go_num⟩, ⟨putV r L x.h x.is, F2, V_115, fr2, nH, by rw [HGV.out]; rfl, by rw [HGV.out]; rfl⟩, H_115, bel_115.below (fun k hk => hk.elim) (Nat.le_refl _)⟩
                    case measure => simp [intOf]; omega
                  · skip
                    have hq : decide (x.h = h) = false := decide_eq_false hxh
                    have HGV : Hid (getV (putV r L x.h x.is) h = none) := Lib.hid (by rw [HGP.out, if_neg hxh, HNG.out])
                    clear hxh
                    go_wp2_with (first
                      | ((with_reducible refine at_slot 76 ?_); (refine arm_want (.bool false) 76 rfl (by kernel_rfl) (cmp_neq _ _ .i64 (by kernel_rfl) _ _ rfl .i64 ((L.length : Int)) ((L.length : Int)) rfl rfl false (decide_eq_true rfl) _) ?_); try simp only [Act.put, List.setIfInBounds_toArray, List.set_cons_zero, List.set_cons_succ])
                      | ((with_reducible refine at_slot 105 ?_); (refine arm_want (.agg (u8s (goneV r L x.h)).toArray) 105 rfl (by kernel_rfl) (run_op_load _ _ rfl A 0 rfl (u8s (goneV r L x.h)) ((Has.refl _).range rrA) (szH HGO.out)) ?_); try simp only [Act.put, List.setIfInBounds_toArray, List.set_cons_zero, List.set_cons_succ])
                      | ((with_reducible refine at_slot 106 ?_); (refine arm_want (.agg (u8s h).toArray) 106 rfl (by kernel_rfl) (run_op_load _ _ rfl H 0 rfl (u8s h) ((Has.refl _).range H_109) (szH KHH.out)) ?_); try simp only [Act.put, List.setIfInBounds_toArray, List.set_cons_zero, List.set_cons_succ])
                      | ((with_reducible refine at_slot 107 ?_); (refine arm_want (.bool true) 107 rfl (by kernel_rfl) (run_op_eqlV _ _ _ rfl (goneV r L x.h) h HGO.out KHH.out rfl rfl true hq2 _) ?_); try simp only [Act.put, List.setIfInBounds_toArray, List.set_cons_zero, List.set_cons_succ])
                      | ((with_reducible refine at_slot 110 ?_); (refine arm_load (o := ⟨some 110, _, _, _, _, _⟩) rfl _ _ rfl X 1 rfl (u8s x.h) (X1.out.range X_109) (szH KH.out) ?_); try simp only [Act.put, List.setIfInBounds_toArray, List.set_cons_zero, List.set_cons_succ])
                      | ((with_reducible refine at_slot 111 ?_); (refine arm_load (o := ⟨some 111, _, _, _, _, _⟩) rfl _ _ rfl H 0 rfl (u8s h) ((Has.refl _).range H_109) (szH KHH.out) ?_); try simp only [Act.put, List.setIfInBounds_toArray, List.set_cons_zero, List.set_cons_succ])
                      | ((with_reducible refine at_slot 112 ?_); (refine arm_want (.bool false) 112 rfl (by kernel_rfl) (run_op_eqlV _ _ _ rfl x.h h KH.out KHH.out rfl rfl false hq _) ?_); try simp only [Act.put, List.setIfInBounds_toArray, List.set_cons_zero, List.set_cons_succ])
                      | ((with_reducible refine at_slot 117 ?_); (refine fpause ?_); try simp only [Act.put, List.setIfInBounds_toArray, List.set_cons_zero, List.set_cons_succ]))
                    refine fgo ?_
                    go_wp2_with (first
                      | ((with_reducible refine at_slot 117 ?_); (refine arm_load (o := ⟨some 117, _, _, _, _, _⟩) rfl _ _ rfl H 0 rfl (u8s h) ((Has.refl _).range H_109) (szH KHH.out) ?_); try simp only [Act.put, List.setIfInBounds_toArray, List.set_cons_zero, List.set_cons_succ]))
                    refine (get_to (v := false) (s := false) V_109 KHH.out (by rw [HGV.out]; rfl) (by rw [HGV.out]; rfl)).mono ?_
                    rintro e y111 ⟨rfl, hB⟩
                    have V_112 : CAt y111 F2 B r (putV r L x.h x.is) := V_109.old hB
                    have H_112 : Row y111 H 32 (u8s h) := H_109.old hB
                    have X_112 : Row y111 X 34 (vac x) := X_109.old hB
                    have A_112 : Row y111 A 32 (u8s (goneV r L x.h)) := rrA.old hB
                    have bel_112 : Chg (fun _ => False) w y111 := bel_109.old hB
                    clear V_109 H_109 X_109 rrA bel_109 hB
                    go_wp2_with (first
                      | ((with_reducible refine at_slot 123 ?_); (refine arm_want (.bool false) 123 rfl (by kernel_rfl) (run_op_neqBB _ _ _ rfl (false) (false) rfl rfl false (bne_self_eq_false _) _) ?_); try simp only [Act.put, List.setIfInBounds_toArray, List.set_cons_zero, List.set_cons_succ])
                      | ((with_reducible refine at_slot 127 ?_); (refine arm_want (.bool false) 127 rfl (by kernel_rfl) (run_op_neqBB _ _ _ rfl (false) (false) rfl rfl false (bne_self_eq_false _) _) ?_); try simp only [Act.put, List.setIfInBounds_toArray, List.set_cons_zero, List.set_cons_succ]))
                    refine (len_to V_112 rfl).mono ?_
                    rintro e z113 ⟨rfl, rfl⟩
                    go_wp2_with (first
                      | ((with_reducible refine at_slot 133 ?_); (refine arm_want (.bool false) 133 rfl (by kernel_rfl) (cmp_gtr _ _ _ _ rfl .i64 (((putV r L x.h x.is).length : Int)) ((r : Int)) rfl rfl false (HLR.out) _) ?_); try simp only [Act.put, List.setIfInBounds_toArray, List.set_cons_zero, List.set_cons_succ]))
                    refine (known_any _ B r (putV r L x.h x.is) _ V_112 HR100.out).mono ?_
                    rintro e y114 ⟨⟨q, cq, rfl, hq⟩, hB⟩
                    have V_115 : CAt y114 F2 B r (putV r L x.h x.is) := V_112.old hB
                    have H_115 : Row y114 H 32 (u8s h) := H_112.old hB
                    have X_115 : Row y114 X 34 (vac x) := X_112.old hB
                    have A_115 : Row y114 A 32 (u8s (goneV r L x.h)) := A_112.old hB
                    have bel_115 : Chg (fun _ => False) w y114 := bel_112.old hB
                    clear V_112 H_112 X_112 A_112 bel_112 hB
                    go_wp2_with fail
                    refine (len_to V_115 rfl).mono ?_
                    rintro e z116 ⟨rfl, rfl⟩
                    go_wp2_with (first
                      | ((with_reducible refine at_slot 141 ?_); (refine arm_want (.bool false) 141 rfl (by kernel_rfl) (cmp_neq _ _ .i64 (by kernel_rfl) _ _ rfl .i64 (((keys (putV r L x.h x.is)).length : Int)) (((putV r L x.h x.is).length : Int)) rfl rfl false (HKK.out) _) ?_); try simp only [Act.put, List.setIfInBounds_toArray, List.set_cons_zero, List.set_cons_succ]))
                    go_roundw
                    case rel => exact ⟨⟨k + 1, by omega, by go_num⟩, ⟨putV r L x.h x.is, F2, V_115, fr2, nH, by rw [HGV.out]; rfl, by rw [HGV.out]; rfl⟩, H_115, bel_115.below (fun k hk => hk.elim) (Nat.le_refl _)⟩
                    case measure => simp [intOf]; omega
                · skip
                  have hq2 : decide (goneV r L x.h = h) = false := decide_eq_false hgh
                  have HNG : Hid ((if fullV r L x.h = true ∧ goneV r L x.h = h then none else getV L h) = getV L h) := Lib.hid (if_neg (fun q => hgh q.2))
                  clear hgh
                  by_cases hxh : x.h = h
                  · skip
                    have hq : decide (x.h = h) = true := decide_eq_true hxh
                    have HGV : Hid (getV (putV r L x.h x.is) h = some x.is) := Lib.hid (by rw [HGP.out, if_pos hxh])
                    clear hxh
                    have hc33 := X_109.cell X33.out
                    go_wp2_with (first
                      | ((with_reducible refine at_slot 76 ?_); (refine arm_want (.bool false) 76 rfl (by kernel_rfl) (cmp_neq _ _ .i64 (by kernel_rfl) _ _ rfl .i64 ((L.length : Int)) ((L.length : Int)) rfl rfl false (decide_eq_true rfl) _) ?_); try simp only [Act.put, List.setIfInBounds_toArray, List.set_cons_zero, List.set_cons_succ])
                      | ((with_reducible refine at_slot 105 ?_); (refine arm_want (.agg (u8s (goneV r L x.h)).toArray) 105 rfl (by kernel_rfl) (run_op_load _ _ rfl A 0 rfl (u8s (goneV r L x.h)) ((Has.refl _).range rrA) (szH HGO.out)) ?_); try simp only [Act.put, List.setIfInBounds_toArray, List.set_cons_zero, List.set_cons_succ])
                      | ((with_reducible refine at_slot 106 ?_); (refine arm_want (.agg (u8s h).toArray) 106 rfl (by kernel_rfl) (run_op_load _ _ rfl H 0 rfl (u8s h) ((Has.refl _).range H_109) (szH KHH.out)) ?_); try simp only [Act.put, List.setIfInBounds_toArray, List.set_cons_zero, List.set_cons_succ])
                      | ((with_reducible refine at_slot 107 ?_); (refine arm_want (.bool false) 107 rfl (by kernel_rfl) (run_op_eqlV _ _ _ rfl (goneV r L x.h) h HGO.out KHH.out rfl rfl false hq2 _) ?_); try simp only [Act.put, List.setIfInBounds_toArray, List.set_cons_zero, List.set_cons_succ])
                      | ((with_reducible refine at_slot 110 ?_); (refine arm_load (o := ⟨some 110, _, _, _, _, _⟩) rfl _ _ rfl X 1 rfl (u8s x.h) (X1.out.range X_109) (szH KH.out) ?_); try simp only [Act.put, List.setIfInBounds_toArray, List.set_cons_zero, List.set_cons_succ])
                      | ((with_reducible refine at_slot 111 ?_); (refine arm_load (o := ⟨some 111, _, _, _, _, _⟩) rfl _ _ rfl H 0 rfl (u8s h) ((Has.refl _).range H_109) (szH KHH.out) ?_); try simp only [Act.put, List.setIfInBounds_toArray, List.set_cons_zero, List.set_cons_succ])
                      | ((with_reducible refine at_slot 112 ?_); (refine arm_want (.bool true) 112 rfl (by kernel_rfl) (run_op_eqlV _ _ _ rfl x.h h KH.out KHH.out rfl rfl true hq _) ?_); try simp only [Act.put, List.setIfInBounds_toArray, List.set_cons_zero, List.set_cons_succ])
                      | ((with_reducible refine at_slot 117 ?_); (refine fpause ?_); try simp only [Act.put, List.setIfInBounds_toArray, List.set_cons_zero, List.set_cons_succ]))
                    clear hc33
                    refine fgo ?_
                    go_wp2_with (first
                      | ((with_reducible refine at_slot 117 ?_); (refine arm_load (o := ⟨some 117, _, _, _, _, _⟩) rfl _ _ rfl H 0 rfl (u8s h) ((Has.refl _).range H_109) (szH KHH.out) ?_); try simp only [Act.put, List.setIfInBounds_toArray, List.set_cons_zero, List.set_cons_succ]))
                    refine (get_to (v := x.is) (s := true) V_109 KHH.out (by rw [HGV.out]; rfl) (by rw [HGV.out]; rfl)).mono ?_
                    rintro e y111 ⟨rfl, hB⟩
                    have V_112 : CAt y111 F2 B r (putV r L x.h x.is) := V_109.old hB
                    have H_112 : Row y111 H 32 (u8s h) := H_109.old hB
                    have X_112 : Row y111 X 34 (vac x) := X_109.old hB
                    have A_112 : Row y111 A 32 (u8s (goneV r L x.h)) := rrA.old hB
                    have bel_112 : Chg (fun _ => False) w y111 := bel_109.old hB
                    clear V_109 H_109 X_109 rrA bel_109 hB
                    go_wp2_with (first
                      | ((with_reducible refine at_slot 123 ?_); (refine arm_want (.bool false) 123 rfl (by kernel_rfl) (run_op_neqBB _ _ _ rfl (x.is) (x.is) rfl rfl false (bne_self_eq_false _) _) ?_); try simp only [Act.put, List.setIfInBounds_toArray, List.set_cons_zero, List.set_cons_succ])
                      | ((with_reducible refine at_slot 127 ?_); (refine arm_want (.bool false) 127 rfl (by kernel_rfl) (run_op_neqBB _ _ _ rfl (true) (true) rfl rfl false (bne_self_eq_false _) _) ?_); try simp only [Act.put, List.setIfInBounds_toArray, List.set_cons_zero, List.set_cons_succ]))
                    refine (len_to V_112 rfl).mono ?_
                    rintro e z113 ⟨rfl, rfl⟩
                    go_wp2_with (first
                      | ((with_reducible refine at_slot 133 ?_); (refine arm_want (.bool false) 133 rfl (by kernel_rfl) (cmp_gtr _ _ _ _ rfl .i64 (((putV r L x.h x.is).length : Int)) ((r : Int)) rfl rfl false (HLR.out) _) ?_); try simp only [Act.put, List.setIfInBounds_toArray, List.set_cons_zero, List.set_cons_succ]))
                    refine (known_any _ B r (putV r L x.h x.is) _ V_112 HR100.out).mono ?_
                    rintro e y114 ⟨⟨q, cq, rfl, hq⟩, hB⟩
                    have V_115 : CAt y114 F2 B r (putV r L x.h x.is) := V_112.old hB
                    have H_115 : Row y114 H 32 (u8s h) := H_112.old hB
                    have X_115 : Row y114 X 34 (vac x) := X_112.old hB
                    have A_115 : Row y114 A 32 (u8s (goneV r L x.h)) := A_112.old hB
                    have bel_115 : Chg (fun _ => False) w y114 := bel_112.old hB
                    clear V_112 H_112 X_112 A_112 bel_112 hB
                    go_wp2_with fail
                    refine (len_to V_115 rfl).mono ?_
                    rintro e z116 ⟨rfl, rfl⟩
                    go_wp2_with (first
                      | ((with_reducible refine at_slot 141 ?_); (refine arm_want (.bool false) 141 rfl (by kernel_rfl) (cmp_neq _ _ .i64 (by kernel_rfl) _ _ rfl .i64 (((keys (putV r L x.h x.is)).length : Int)) (((putV r L x.h x.is).length : Int)) rfl rfl false (HKK.out) _) ?_); try simp only [Act.put, List.setIfInBounds_toArray, List.set_cons_zero, List.set_cons_succ]))
                    go_roundw
                    case rel => exact ⟨⟨k + 1, by omega, by go_num⟩, ⟨putV r L x.h x.is, F2, V_115, fr2, nH, by rw [HGV.out]; rfl, by rw [HGV.out]; rfl⟩, H_115, bel_115.below (fun k hk => hk.elim) (Nat.le_refl _)⟩
                    case measure => simp [intOf]; omega
                  · skip
                    have hq : decide (x.h = h) = false := decide_eq_false hxh
                    have HGV : Hid (getV (putV r L x.h x.is) h = ov) := Lib.hid (by rw [HGP.out, if_neg hxh, HNG.out, HOV.out])
                    clear hxh
                    go_wp2_with (first
                      | ((with_reducible refine at_slot 76 ?_); (refine arm_want (.bool false) 76 rfl (by kernel_rfl) (cmp_neq _ _ .i64 (by kernel_rfl) _ _ rfl .i64 ((L.length : Int)) ((L.length : Int)) rfl rfl false (decide_eq_true rfl) _) ?_); try simp only [Act.put, List.setIfInBounds_toArray, List.set_cons_zero, List.set_cons_succ])
                      | ((with_reducible refine at_slot 105 ?_); (refine arm_want (.agg (u8s (goneV r L x.h)).toArray) 105 rfl (by kernel_rfl) (run_op_load _ _ rfl A 0 rfl (u8s (goneV r L x.h)) ((Has.refl _).range rrA) (szH HGO.out)) ?_); try simp only [Act.put, List.setIfInBounds_toArray, List.set_cons_zero, List.set_cons_succ])
                      | ((with_reducible refine at_slot 106 ?_); (refine arm_want (.agg (u8s h).toArray) 106 rfl (by kernel_rfl) (run_op_load _ _ rfl H 0 rfl (u8s h) ((Has.refl _).range H_109) (szH KHH.out)) ?_); try simp only [Act.put, List.setIfInBounds_toArray, List.set_cons_zero, List.set_cons_succ])
                      | ((with_reducible refine at_slot 107 ?_); (refine arm_want (.bool false) 107 rfl (by kernel_rfl) (run_op_eqlV _ _ _ rfl (goneV r L x.h) h HGO.out KHH.out rfl rfl false hq2 _) ?_); try simp only [Act.put, List.setIfInBounds_toArray, List.set_cons_zero, List.set_cons_succ])
                      | ((with_reducible refine at_slot 110 ?_); (refine arm_load (o := ⟨some 110, _, _, _, _, _⟩) rfl _ _ rfl X 1 rfl (u8s x.h) (X1.out.range X_109) (szH KH.out) ?_); try simp only [Act.put, List.setIfInBounds_toArray, List.set_cons_zero, List.set_cons_succ])
                      | ((with_reducible refine at_slot 111 ?_); (refine arm_load (o := ⟨some 111, _, _, _, _, _⟩) rfl _ _ rfl H 0 rfl (u8s h) ((Has.refl _).range H_109) (szH KHH.out) ?_); try simp only [Act.put, List.setIfInBounds_toArray, List.set_cons_zero, List.set_cons_succ])
                      | ((with_reducible refine at_slot 112 ?_); (refine arm_want (.bool false) 112 rfl (by kernel_rfl) (run_op_eqlV _ _ _ rfl x.h h KH.out KHH.out rfl rfl false hq _) ?_); try simp only [Act.put, List.setIfInBounds_toArray, List.set_cons_zero, List.set_cons_succ])
                      | ((with_reducible refine at_slot 117 ?_); (refine fpause ?_); try simp only [Act.put, List.setIfInBounds_toArray, List.set_cons_zero, List.set_cons_succ]))
                    refine fgo ?_
                    go_wp2_with (first
                      | ((with_reducible refine at_slot 117 ?_); (refine arm_load (o := ⟨some 117, _, _, _, _, _⟩) rfl _ _ rfl H 0 rfl (u8s h) ((Has.refl _).range H_109) (szH KHH.out) ?_); try simp only [Act.put, List.setIfInBounds_toArray, List.set_cons_zero, List.set_cons_succ]))
                    refine (get_to (v := (ov.getD false)) (s := ov.isSome) V_109 KHH.out (by rw [HGV.out]) (by rw [HGV.out])).mono ?_
                    rintro e y111 ⟨rfl, hB⟩
                    have V_112 : CAt y111 F2 B r (putV r L x.h x.is) := V_109.old hB
                    have H_112 : Row y111 H 32 (u8s h) := H_109.old hB
                    have X_112 : Row y111 X 34 (vac x) := X_109.old hB
                    have A_112 : Row y111 A 32 (u8s (goneV r L x.h)) := rrA.old hB
                    have bel_112 : Chg (fun _ => False) w y111 := bel_109.old hB
                    clear V_109 H_109 X_109 rrA bel_109 hB
                    go_wp2_with (first
                      | ((with_reducible refine at_slot 123 ?_); (refine arm_want (.bool false) 123 rfl (by kernel_rfl) (run_op_neqBB _ _ _ rfl ((ov.getD false)) ((ov.getD false)) rfl rfl false (bne_self_eq_false _) _) ?_); try simp only [Act.put, List.setIfInBounds_toArray, List.set_cons_zero, List.set_cons_succ])
                      | ((with_reducible refine at_slot 127 ?_); (refine arm_want (.bool false) 127 rfl (by kernel_rfl) (run_op_neqBB _ _ _ rfl (ov.isSome) (ov.isSome) rfl rfl false (bne_self_eq_false _) _) ?_); try simp only [Act.put, List.setIfInBounds_toArray, List.set_cons_zero, List.set_cons_succ]))
                    refine (len_to V_112 rfl).mono ?_
                    rintro e z113 ⟨rfl, rfl⟩
                    go_wp2_with (first
                      | ((with_reducible refine at_slot 133 ?_); (refine arm_want (.bool false) 133 rfl (by kernel_rfl) (cmp_gtr _ _ _ _ rfl .i64 (((putV r L x.h x.is).length : Int)) ((r : Int)) rfl rfl false (HLR.out) _) ?_); try simp only [Act.put, List.setIfInBounds_toArray, List.set_cons_zero, List.set_cons_succ]))
                    refine (known_any _ B r (putV r L x.h x.is) _ V_112 HR100.out).mono ?_
                    rintro e y114 ⟨⟨q, cq, rfl, hq⟩, hB⟩
                    have V_115 : CAt y114 F2 B r (putV r L x.h x.is) := V_112.old hB
                    have H_115 : Row y114 H 32 (u8s h) := H_112.old hB
                    have X_115 : Row y114 X 34 (vac x) := X_112.old hB
                    have A_115 : Row y114 A 32 (u8s (goneV r L x.h)) := A_112.old hB
                    have bel_115 : Chg (fun _ => False) w y114 := bel_112.old hB
                    clear V_112 H_112 X_112 A_112 bel_112 hB
                    go_wp2_with fail
                    refine (len_to V_115 rfl).mono ?_
                    rintro e z116 ⟨rfl, rfl⟩
                    go_wp2_with (first
                      | ((with_reducible refine at_slot 141 ?_); (refine arm_want (.bool false) 141 rfl (by kernel_rfl) (cmp_neq _ _ .i64 (by kernel_rfl) _ _ rfl .i64 (((keys (putV r L x.h x.is)).length : Int)) (((putV r L x.h x.is).length : Int)) rfl rfl false (HKK.out) _) ?_); try simp only [Act.put, List.setIfInBounds_toArray, List.set_cons_zero, List.set_cons_succ]))
                    go_roundw
                    case rel => exact ⟨⟨k + 1, by omega, by go_num⟩, ⟨putV r L x.h x.is, F2, V_115, fr2, nH, by rw [HGV.out], by rw [HGV.out]⟩, H_115, bel_115.below (fun k hk => hk.elim) (Nat.le_refl _)⟩
                    case measure => simp [intOf]; omega
          · skip
            have hc0 := rrX.cell X0.out
            go_wp2_with (first
              | ((with_reducible refine at_slot 42 ?_); (refine arm_want (.bool true) 42 rfl (by kernel_rfl) (cmp_neq _ _ .i64 (by kernel_rfl) _ _ rfl .i64 (d) (0) rfl rfl true (decide_eq_false h0) _) ?_); try simp only [Act.put, List.setIfInBounds_toArray, List.set_cons_zero, List.set_cons_succ]))
            go_roundw
            case rel => exact ⟨⟨k + 1, by omega, by go_num⟩, ⟨L, F, V_102, fr, nH, by rw [HOV.out], by rw [HOV.out]⟩, H_102, bel_102.below (fun k hk => hk.elim) (Nat.le_refl _)⟩
            case measure => simp [intOf]; omega
        · skip
          obtain rfl : k = l.length := by omega
          clear hV fr nH hHr hlt
          go_wp2_with fail
          go_ret
          exact ⟨rfl, bel⟩
  · skip
    go_wp2_with (first
      | ((with_reducible refine at_slot 28 ?_); (refine arm_want (.bool true) 28 rfl (by kernel_rfl) (run_op_eqlP' _ _ _ (by kernel_rfl) _ _ rfl none rfl rfl true rfl _) ?_); try simp only [Act.put, List.setIfInBounds_toArray, List.set_cons_zero, List.set_cons_succ]))
    go_ret
    exact ⟨rfl, bel_5.below (fun k hk => hk.elim) (Nat.le_refl _)⟩
end Go.Proofs.Ytbpghogdjpobnaa.Vd
