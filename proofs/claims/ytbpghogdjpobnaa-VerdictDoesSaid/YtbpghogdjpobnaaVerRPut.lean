/-
  The contract of the document's Put, of layer 18. Over this seat's translation.
-/
import Derived.Test.YtbpghogdjpobnaaVerRef
import Derived.Test.YtbpghogdjpobnaaVerGive
namespace Go.Proofs.Ytbpghogdjpobnaa.Vd
open Go.ChangeShapes Go.WideShapes Go.ChangeAt Go.RowKit Go.Proofs.Ytbpghogdjpobnaa.Mem Go.Proofs.Ytbpghogdjpobnaa.Bt Go.Proofs.Ytbpghogdjpobnaa.Km
open Go.Proofs.Ytbpghogdjpobnaa.Ep (H32 zh zh_ok Has h_len szH zH fitH allH one_app)
open Go.Proofs.Ytbpghogdjpobnaa.Sl (Kind Own At bk)
set_option linter.unusedVariables false
set_option linter.unusedSimpArgs false

theorem sz_slP : (Try.prog.info? 40).map (·.size) = some 1 := by kernel_rfl
theorem sz_boo : (Try.prog.info? 4).map (·.size) = some 1 := by kernel_rfl
theorem one_boo (b : Bool) : (Value.bool b).oneCell' = true := rfl
theorem lt_rcs (r : Nat) (p : Option Addr) (n c : Nat) : 0 < (rcs r p n c).length := Nat.succ_pos 1
theorem set_same {L : VL} {h : List Nat} {b : Bool} {k : Nat} {x : List Nat × Bool} (nd : (keys L).Nodup) (hx : L[k]? = some x) (he : x.1 = h) : L.set k (h, b) = setV L h b := by
  subst he
  have := Km.set_at (l := L) nd (j := k) (x := x.1) (u := x.2) hx b
  rw [this]
  unfold setV
  refine List.map_congr_left fun p _ => ?_
  split
  · rename_i e; rw [e]
  · rfl
/-- One cell of a pair that stands in a row. -/
theorem put_bool {w : World} {base g cap : Nat} {L : VL} (h : Own kP w base (some ⟨g, 0, none⟩) cap L) {k : Nat} {x : List Nat × Bool} (hx : L[k]? = some x) (b : Bool) :
    ∃ cs, Row w g 57 cs ∧ k * 33 + 32 < cs.length ∧ ∀ w', Row w' g 57 (cs.set (k * 33 + 32) (.bool b)) → Own kP w' base (some ⟨g, 0, none⟩) cap (L.set k (x.1, b)) := by
  have hk : k < L.length := (List.getElem?_eq_some_iff.1 hx).1
  have kx : PrOk x := Sl.AllOk.get h.ok hx
  obtain ⟨g', cs, hp, hg, hr, hf, hback⟩ := h.put fP hk (b := (x.1, b)) kx
  obtain rfl : g = g' := by simpa using hp
  obtain ⟨g2, cs2, rr, hp2, _, hr2, e2, _⟩ := h.as_row (by omega)
  obtain rfl : g = g2 := by simpa using hp2
  obtain rfl := hr.inj hr2
  have e3 : Sl.Kind.all kP L = Sl.Kind.all kP (L.take k) ++ (prc x ++ Sl.Kind.all kP (L.drop (k + 1))) := by
    rw [Sl.all_take_drop L k, List.drop_eq_getElem_cons hk, Sl.all_cons]
    rw [List.getElem?_eq_getElem hk] at hx
    rw [Option.some.inj hx]
  have l1 : (Sl.Kind.all kP (L.take k)).length = k * 33 := by rw [Sl.all_len fP _ (Sl.AllOk.take h.ok k), List.length_take, Nat.min_eq_left (by omega)]
  rw [show (kP.cs (x.1, b)).length = 33 from prc_len (show PrOk (x.1, b) from kx), show kP.n = 33 from rfl] at hf
  refine ⟨cs, hr, by omega, fun w' hw => hback w' (hw.congr ?_)⟩
  have l2 : (u8s x.1).length = 32 := h_len kx
  have r1 : ∀ R : List Value, lay (prc x ++ R) 32 [.bool b] = prc (x.1, b) ++ R := fun R => by
    unfold prc
    rw [List.append_assoc, show (32 : Nat) = 32 + 0 from rfl, lay_skip _ _ _ 0 l2, lay_head [Value.bool x.2] _ [Value.bool b] rfl, List.append_assoc]
  have r2 : ∀ R : List Value, lay (prc x ++ R) 0 (prc (x.1, b)) = prc (x.1, b) ++ R := fun R => lay_head _ _ _ (by rw [prc_len kx, prc_len (show PrOk (x.1, b) from kx)])
  rw [Ep.set_lay (by omega), e2, e3, List.append_assoc, lay_skip _ _ _ 32 l1, List.append_assoc, r1]
  show _ = lay _ (k * 33) (prc (x.1, b))
  rw [show k * 33 = k * 33 + 0 from rfl, lay_skip _ _ _ 0 l1, r2]
structure RPutPost (w : World) (F : Nat → Prop) (C r : Nat) (L : VL) (h : List Nat) (b : Bool) (e : Ending) (w' : World) : Prop where
  ret : e = .returned (.tuple #[.agg (u8s (goneV r L h)).toArray, .bool (fullV r L h)])
  ex : ∃ F', RAt w' F' C r (putV r L h b) ∧ Grew F F' w.heap.size
  chg : Chg F w w'
theorem rput_done {w y : World} {F : Nat → Prop} {C r c : Nat} {L : VL} {p : Option Addr} (hC : Row y C 42 (rcs r p L.length c)) (hO : Own kP y w.heap.size p c L) (hok : VOk r L) (hli : Lies F w) (hs : w.heap.size ≤ y.heap.size) (fB : F C) : ∃ F', RAt y F' C r L ∧ Grew F F' w.heap.size :=
  ⟨fun k => F k ∨ bk p = some k, ⟨⟨p, c, hC, hO.at fP, hO.cap, .inl fB, fun k q => .inr q⟩, hok, fun k q => q.elim (fun q => by have := hli k q; omega) (fun q => (hO.ge q).2)⟩, fun k q => q.imp id (fun q => (hO.ge q).1)⟩
structure RpRel (w : World) (L : VL) (h : List Nat) (i : Value) (wr : World) : Prop where
  ex : ∃ k : Nat, k ≤ L.length ∧ i = .int .i64 (k : Int) ∧ ∀ j y, j < k → L[j]? = some y → y.1 ≠ h
  bel : Below w.heap.size w wr
set_option maxHeartbeats 4000000 in
set_option maxRecDepth 100000 in
theorem rput_any (F : Nat → Prop) (C r : Nat) (L : VL) (h : List Nat) (b : Bool) (w : World) (hC : RAt w F C r L) (hh : H32 h) (hr : r ≤ 100) :
    Calls Try.prog 10 #[.pointer (some ⟨C, 0, none⟩), .agg (u8s h).toArray, .bool b] w (RPutPost w F C r L h b) := by
  have HPO : Hid (VOk r (putV r L h b)) := Lib.hid (put_ok hC.ok hh b)
  have HGO : Hid (H32 (goneV r L h)) := Lib.hid (gone_ok hC.ok h)
  obtain ⟨⟨p, cap, hB, hA, hcap, fB, fp⟩, hok, hli⟩ := hC
  have KH := Lib.hid hh
  have HL : Hid (L.length ≤ 100) := Lib.hid (by have := hok.len; omega)
  have HOK := Lib.hid hok; have HLI := Lib.hid hli; have FB := Lib.hid fB
  have nCF : ∀ k, w.heap.size ≤ k → ¬ F k := fun k h1 h2 => by have := hli k h2; omega
  have BP : Hid (∀ b, Try.prog.built 57 [(0, .agg (u8s h).toArray), (1, .bool b)] = some (prc (h, b)).toArray) := Lib.hid (fun b => built_pair b hh)
  clear hok hli hcap fB fp hh hr
  go_enter Try.func10, Try.ntmps10
  have bel0 : Chg (fun _ => False) w w := Chg.refl _ _
  go_wp2_with (first
    | ((with_reducible refine at_slot 4 ?_); (refine arm_box (o := ⟨some 4, _, _, _, _, _⟩) rfl _ _ rfl (u8s h) rfl ?_); intro X v1 Xe hv1 nv1; try simp only [Act.put, List.setIfInBounds_toArray, List.set_cons_zero, List.set_cons_succ])
    | ((with_reducible refine at_slot 6 ?_); (refine arm_alloc (o := ⟨some 6, _, _, _, _, _⟩) rfl _ rfl (u8s zh) zH ?_); intro R v2 Re hv2 nv2; try simp only [Act.put, List.setIfInBounds_toArray, List.set_cons_zero, List.set_cons_succ])
    | ((with_reducible refine at_slot 10 ?_); (refine fpause ?_); try simp only [Act.put, List.setIfInBounds_toArray, List.set_cons_zero, List.set_cons_succ]))
  have hbv1 := nv1.below
  have rrv1 : Row v1 X 32 (u8s h) := hv1
  have hbv2 := nv2.below
  have rrv2 : Row v2 R 32 (u8s zh) := hv2
  have geX : w.heap.size ≤ X := by have := Xe.out; have := bel0.size; omega
  have lXx : w.heap.size ≤ X := by have := Xe.out; omega
  clear hv1 nv1 Xe
  have C_3 : Row v1 C 42 (rcs r p L.length cap) := hB.old hbv1
  have A_3 : At kP v1 p L := hA.below hbv1
  have bel_3 : Chg (fun _ => False) w v1 := bel0.old hbv1
  clear hB hA bel0 hbv1
  have geR : w.heap.size ≤ R := by have := Re.out; have := bel_3.size; omega
  have ltXR : X < R := by have := Re.out; have := rrv1.lt; omega
  have lRx : v1.heap.size ≤ R := by have := Re.out; omega
  clear hv2 nv2 Re
  have C_4 : Row v2 C 42 (rcs r p L.length cap) := C_3.old hbv2
  have A_4 : At kP v2 p L := A_3.below hbv2
  have X_4 : Row v2 X 32 (u8s h) := rrv1.old hbv2
  have bel_4 : Chg (fun _ => False) w v2 := bel_3.old hbv2
  clear C_3 A_3 rrv1 bel_3 hbv2
  have hc0 := (C_4.old (new_alloc v2 (.cells #[] 57)).below).cell (i := 0) rfl
  have hBz : Below w.heap.size w v2 := bel_4.below (fun k hk => hk.elim) (Nat.le_refl _)
  refine fgo ?_
  go_wp2_with (first
    | ((with_reducible refine at_slot 15 ?_); (refine Sl.arm_appendQ (o := ⟨some 15, _, _, _, _, _⟩) rfl fP _ _ rfl v2.heap.size (some ⟨v2.heap.size, 0, none⟩) 0 0 [] rfl rfl (Sl.own_empty fP v2) p _ cap L rfl rfl (A_4.below (new_alloc v2 _).below) (by have := HL.out; rw [List.length_nil]; omega) (new_alloc v2 _).below.size ?_); intro q cq W1 hO hB1 hk1 hb1; try simp only [List.nil_append] at hO ⊢; try simp only [Act.put, List.setIfInBounds_toArray, List.set_cons_zero, List.set_cons_succ]; refine fpause ?_; try simp only [Act.put, List.setIfInBounds_toArray, List.set_cons_zero, List.set_cons_succ]))
  have hB2 := (new_alloc v2 (.cells #[] 57)).below.trans hB1
  clear hc0 hk1 hb1 hB1
  have C_5 : Row W1 C 42 (rcs r p L.length cap) := C_4.old hB2
  have A_5 : At kP W1 p L := A_4.below hB2
  have X_5 : Row W1 X 32 (u8s h) := X_4.old hB2
  have R_5 : Row W1 R 32 (u8s zh) := rrv2.old hB2
  have bel_5 : Chg (fun _ => False) w W1 := bel_4.old hB2
  clear C_4 A_4 X_4 rrv2 bel_4 hB2
  have HBX : Hid (Below w.heap.size w W1) := Lib.hid (bel_5.below (fun k hk => hk.elim) (Nat.le_refl _))
  have HC0 := Lib.hid C_5; have HX0 := Lib.hid X_5; have HR0 := Lib.hid R_5
  have HO0 : Hid (Own kP W1 w.heap.size q cq L) := Lib.hid (hO.low hBz.size)
  have nXR : X ≠ R := by omega
  clear bel_5 C_5 X_5 R_5 A_5 hO hBz
  have h0 : RpRel W1 L h (.int .i64 0) W1 := ⟨⟨0, by omega, rfl, fun j y hj => by omega⟩, Below.refl _ _⟩
  refine fgo ?_
  go_wp2_with fail
  go_loopw [9] (fun i wr => RpRel W1 L h i wr) (fun i _ => L.length - (intOf i).toNat)
  case atStart => exact h0
  case round =>
    clear h0
    obtain ⟨⟨k, hk, rfl, hne⟩, bel⟩ := hrel
    have hCr := HC0.out.old bel; have hXr := HX0.out.old bel; have hRr := HR0.out.old bel; have hOr := HO0.out.below bel
    have hBw : Below w.heap.size w wr := HBX.out.trans (bel.mono HBX.out.size)
    have bel0 : Chg (fun _ => False) w wr := Chg.of_below _ hBw
    have hL := HL.out
    clear hBw
    by_cases hlt : k < L.length
    · obtain ⟨x, g, o, hx, kx, hp, hg, hrx⟩ := (hOr.at fP).get hlt
      obtain ⟨g', cs', rr', hp', hgw, _, _, _⟩ := hOr.as_row (by omega)
      obtain ⟨rfl, rfl⟩ : g = g' ∧ o = 0 := by rw [hp] at hp'; simpa using hp'
      subst hp
      have KX : Hid (H32 x.1) := Lib.hid kx
      have HNE := Lib.hid hne; have HX1 := Lib.hid hx; have BEL := Lib.hid bel
      have ik : (k : Int) < (L.length : Int) := by omega
      have k100 : k < 100 := by omega
      have hrh : wr.rangeAt g (0 + k * 33) (u8s x.1) := fun j v hj => hrx j v (by show (u8s x.1 ++ [Value.bool x.2])[j]? = some v; rw [List.getElem?_append_left (List.getElem?_eq_some_iff.1 hj).1]; exact hj)
      have hO2 := hOr
      have HCAP := Lib.hid hOr.cap
      clear hne hx kx bel hrx hL hp' hOr
      have hWr : Below wr.heap.size wr wr := Below.refl _ _
      by_cases he : x.1 = h
      · skip
        have de : decide (x.1 = h) = true := decide_eq_true he
        go_wp2_with fail
        refine wp_region_held (S := fun w' => Row w' X 32 (u8s h) ∧ w'.rangeAt g (0 + k * 33) (u8s x.1) ∧ True) (by kernel_rfl) ?_
        change wpAnyH _ _ _ _ _ _ _ _ wr.drew
        have hd101 : Below wr.heap.size wr wr.drew := (Below.refl _ _).drew
        have C_102 : Row wr.drew C 42 (rcs r p L.length cap) := hCr.old hd101
        have X_102 : Row wr.drew X 32 (u8s h) := hXr.old hd101
        have R_102 : Row wr.drew R 32 (u8s zh) := hRr.old hd101
        have O_102 : Own kP wr.drew w.heap.size (some ⟨g, 0, none⟩) cq L := hO2.below hd101
        have D_102 : wr.drew.rangeAt g (0 + k * 33) (u8s x.1) := range_u8 hrh KX.out hd101
        have W_102 : Below wr.heap.size wr wr.drew := below_step hWr hWr.size hd101
        have bel_102 : Chg (fun _ => False) w wr.drew := bel0.old hd101
        clear hCr hXr hRr hO2 hrh hWr bel0 hd101
        generalize wr.drew = yz101 at C_102 X_102 R_102 O_102 D_102 W_102 bel_102 ⊢
        refine h_take 0 (.slice (some ⟨g, 0, none⟩) L.length cq) rfl 22 rfl (by kernel_rfl) (by kernel_rfl) (by kernel_rfl) (by kernel_rfl) (fun _ _ _ h => h) (fun w' _ => by kernel_rfl) ⟨X_102, D_102, trivial⟩ ?_
        simp only [Act.put, List.setIfInBounds_toArray, List.set_cons_zero, List.set_cons_succ]
        refine h_take 1 (.int .i64 (k : Int)) rfl 23 rfl (by kernel_rfl) (by kernel_rfl) (by kernel_rfl) (by kernel_rfl) (fun _ _ _ h => h) (fun w' _ => by kernel_rfl) ⟨X_102, D_102, trivial⟩ ?_
        simp only [Act.put, List.setIfInBounds_toArray, List.set_cons_zero, List.set_cons_succ]
        refine h_take 2 (.pointer (some ⟨g, 0 + k * 33, none⟩)) rfl 24 rfl (by kernel_rfl) (by kernel_rfl) (by kernel_rfl) (by kernel_rfl) (fun _ _ _ h => h) (fun w' _ => Sl.run_op_index fP _ _ rfl g 0 _ _ rfl .i64 _ rfl k rfl (hlt) w') ⟨X_102, D_102, trivial⟩ ?_
        simp only [Act.put, List.setIfInBounds_toArray, List.set_cons_zero, List.set_cons_succ]
        refine h_take 3 (.pointer (some ⟨g, 0 + k * 33, none⟩)) rfl 25 rfl (by kernel_rfl) (by kernel_rfl) (by kernel_rfl) (by kernel_rfl) (fun _ _ _ h => h) (fun w' _ => by kernel_rfl) ⟨X_102, D_102, trivial⟩ ?_
        simp only [Act.put, List.setIfInBounds_toArray, List.set_cons_zero, List.set_cons_succ]
        refine h_take 4 (.agg (u8s x.1).toArray) rfl 26 rfl (by kernel_rfl) (by kernel_rfl) (by kernel_rfl) (by kernel_rfl) (fun _ _ _ h => h) (fun w' hw => run_op_load _ _ rfl g (0 + k * 33) rfl (u8s x.1) hw.2.1 (szH KX.out)) ⟨X_102, D_102, trivial⟩ ?_
        simp only [Act.put, List.setIfInBounds_toArray, List.set_cons_zero, List.set_cons_succ]
        refine h_take 5 (.agg (u8s h).toArray) rfl 27 rfl (by kernel_rfl) (by kernel_rfl) (by kernel_rfl) (by kernel_rfl) (fun _ _ _ h => h) (fun w' hw => run_op_load _ _ rfl X (0) rfl (u8s h) (((Has.refl _)).range hw.1) ((szH KH.out))) ⟨X_102, D_102, trivial⟩ ?_
        simp only [Act.put, List.setIfInBounds_toArray, List.set_cons_zero, List.set_cons_succ]
        refine h_take 6 (.bool true) rfl 28 rfl (by kernel_rfl) (by kernel_rfl) (by kernel_rfl) (by kernel_rfl) (fun _ _ _ h => h) (fun w' _ => run_op_eqlV _ _ _ rfl x.1 h KX.out KH.out rfl rfl true de w') ⟨X_102, D_102, trivial⟩ ?_
        simp only [Act.put, List.setIfInBounds_toArray, List.set_cons_zero, List.set_cons_succ]
        refine wpAnyH_done (by kernel_rfl) ?_ _
        clear D_102
        clear W_102
        obtain ⟨cs, hrow, hltc, hback⟩ := put_bool O_102 HX1.out b
        have HBK := Lib.hid hback
        have HSET : Hid (L.set k (x.1, b) = putV r L h b) := Lib.hid (by
          have hi : h ∈ keys L := he ▸ List.mem_map.2 ⟨x, List.mem_of_getElem? HX1.out, rfl⟩
          rw [put_in hi, ← set_same HOK.out.nd HX1.out he, he])
        have HKI : Hid (h ∈ keys L) := Lib.hid (he ▸ List.mem_map.2 ⟨x, List.mem_of_getElem? HX1.out, rfl⟩)
        have nXg : X ≠ g := X_102.ne_type hrow (by decide)
        have nRg : R ≠ g := R_102.ne_type hrow (by decide)
        have nCg : C ≠ g := C_102.ne_type hrow (by decide)
        clear hback
        go_wp2_with (first
          | ((with_reducible refine at_slot 32 ?_); (refine arm_want (.pointer (some ⟨g, 0 + k * 33, none⟩)) 32 rfl (by kernel_rfl) (Sl.run_op_index fP _ _ rfl g 0 _ _ rfl .i64 _ rfl k rfl (hlt) _) ?_); try simp only [Act.put, List.setIfInBounds_toArray, List.set_cons_zero, List.set_cons_succ])
          | ((with_reducible refine arm_storeV (o := ⟨none, _, _, _, _, _⟩) rfl _ _ _ rfl g (k * 33 + 32) rfl (.bool b) rfl (one_boo _) sz_boo _ _ (hrow) (hltc) ?_); intro yS hyS oyS syS; try simp only [Act.put, List.setIfInBounds_toArray, List.set_cons_zero, List.set_cons_succ]; refine fpause ?_; try simp only [Act.put, List.setIfInBounds_toArray, List.set_cons_zero, List.set_cons_succ]))
        have hO3 := HBK.out yS hyS
        rw [HSET.out] at hO3
        have hLL : Hid ((putV r L h b).length = L.length) := Lib.hid (by rw [← HSET.out, List.length_set])
        clear hyS syS hrow
        have C_103 : Row yS C 42 (rcs r p L.length cap) := C_102.only oyS nCg
        have X_103 : Row yS X 32 (u8s h) := X_102.only oyS nXg
        have R_103 : Row yS R 32 (u8s zh) := R_102.only oyS nRg
        have O_103 : Own kP yS w.heap.size (some ⟨g, 0, none⟩) cq (putV r L h b) := hO3
        have bel_103 : Chg (fun _ => False) w yS := bel_102.new oyS (hgw)
        clear C_102 X_102 R_102 O_102 bel_102 oyS
        refine fgo ?_
        go_wp2_with (first
          | ((with_reducible refine arm_storeV (o := ⟨none, _, _, _, _, _⟩) rfl _ _ _ rfl C (0) rfl (.slice (some ⟨g, 0, none⟩) L.length cq) rfl (one_sl _ _ _) sz_slP _ _ (C_103) (lt_rcs _ _ _ _) ?_); intro yC hyC oyC syC; try simp only [Act.put, List.setIfInBounds_toArray, List.set_cons_zero, List.set_cons_succ]; refine fpause ?_; try simp only [Act.put, List.setIfInBounds_toArray, List.set_cons_zero, List.set_cons_succ]))
        have nXC := X_103.ne_type C_103 (by decide); have nRC := R_103.ne_type C_103 (by decide)
        have hC3 : Row yC C 42 (rcs r (some ⟨g, 0, none⟩) (putV r L h b).length cq) := by rw [hLL.out]; exact hyC
        have hO4 := O_103.only oyC (O_103.ne C_103 (by decide))
        have hR4 := R_103.only oyC nRC
        have hch : Chg F w yC := Chg.only (bel_103.more (fun k hk => hk.elim)) oyC FB.out
        clear bel_103 X_103 R_103 C_103 O_103 hyC syC oyC
        refine fgo ?_
        go_wp2_with (first
          | ((with_reducible refine at_slot 38 ?_); (refine arm_build (o := ⟨some 38, _, _, _, _, _⟩) rfl _ _ rfl (u8s zh) (by kernel_rfl) ?_); try simp only [Act.put, List.setIfInBounds_toArray, List.set_cons_zero, List.set_cons_succ])
          | ((with_reducible refine arm_store (o := ⟨none, _, _, _, _, _⟩) rfl _ _ _ rfl R 0 rfl (u8s zh) rfl _ _ hR4 (fitH zh_ok) (u8s_one _) (szH zh_ok) ?_); intro yR hR oR sR; try simp only [Act.put, List.setIfInBounds_toArray, List.set_cons_zero, List.set_cons_succ]))
        have hG : goneV r L h = zh := by unfold goneV; rw [full_no HKI.out]; rfl
        refine bodyPost_ret (result_row2 (p := 6) (u := 7) (ty := 32) (t := 32) (by kernel_rfl) _ _ R (u8s zh) (.bool false) rfl rfl (hR.congr (allH zh_ok)) (szH zh_ok)) rfl ?_
        have hCR := (Ne.symm nRC)
        have hO5 := hO4.only oR (fun e => nRg (Option.some.inj e).symm)
        have hsz := hch.size; have hsz2 := oR.size
        exact ⟨by rw [hG, full_no HKI.out], rput_done (hC3.only oR hCR) hO5 HPO.out HLI.out (by omega) FB.out, hch.new oR geR⟩
      · skip
        have de : decide (x.1 = h) = false := decide_eq_false he
        go_wp2_with fail
        refine wp_region_held (S := fun w' => Row w' X 32 (u8s h) ∧ w'.rangeAt g (0 + k * 33) (u8s x.1) ∧ True) (by kernel_rfl) ?_
        change wpAnyH _ _ _ _ _ _ _ _ wr.drew
        have hd101 : Below wr.heap.size wr wr.drew := (Below.refl _ _).drew
        have C_102 : Row wr.drew C 42 (rcs r p L.length cap) := hCr.old hd101
        have X_102 : Row wr.drew X 32 (u8s h) := hXr.old hd101
        have R_102 : Row wr.drew R 32 (u8s zh) := hRr.old hd101
        have O_102 : Own kP wr.drew w.heap.size (some ⟨g, 0, none⟩) cq L := hO2.below hd101
        have D_102 : wr.drew.rangeAt g (0 + k * 33) (u8s x.1) := range_u8 hrh KX.out hd101
        have W_102 : Below wr.heap.size wr wr.drew := below_step hWr hWr.size hd101
        have bel_102 : Chg (fun _ => False) w wr.drew := bel0.old hd101
        clear hCr hXr hRr hO2 hrh hWr bel0 hd101
        generalize wr.drew = yz101 at C_102 X_102 R_102 O_102 D_102 W_102 bel_102 ⊢
        refine h_take 0 (.slice (some ⟨g, 0, none⟩) L.length cq) rfl 22 rfl (by kernel_rfl) (by kernel_rfl) (by kernel_rfl) (by kernel_rfl) (fun _ _ _ h => h) (fun w' _ => by kernel_rfl) ⟨X_102, D_102, trivial⟩ ?_
        simp only [Act.put, List.setIfInBounds_toArray, List.set_cons_zero, List.set_cons_succ]
        refine h_take 1 (.int .i64 (k : Int)) rfl 23 rfl (by kernel_rfl) (by kernel_rfl) (by kernel_rfl) (by kernel_rfl) (fun _ _ _ h => h) (fun w' _ => by kernel_rfl) ⟨X_102, D_102, trivial⟩ ?_
        simp only [Act.put, List.setIfInBounds_toArray, List.set_cons_zero, List.set_cons_succ]
        refine h_take 2 (.pointer (some ⟨g, 0 + k * 33, none⟩)) rfl 24 rfl (by kernel_rfl) (by kernel_rfl) (by kernel_rfl) (by kernel_rfl) (fun _ _ _ h => h) (fun w' _ => Sl.run_op_index fP _ _ rfl g 0 _ _ rfl .i64 _ rfl k rfl (hlt) w') ⟨X_102, D_102, trivial⟩ ?_
        simp only [Act.put, List.setIfInBounds_toArray, List.set_cons_zero, List.set_cons_succ]
        refine h_take 3 (.pointer (some ⟨g, 0 + k * 33, none⟩)) rfl 25 rfl (by kernel_rfl) (by kernel_rfl) (by kernel_rfl) (by kernel_rfl) (fun _ _ _ h => h) (fun w' _ => by kernel_rfl) ⟨X_102, D_102, trivial⟩ ?_
        simp only [Act.put, List.setIfInBounds_toArray, List.set_cons_zero, List.set_cons_succ]
        refine h_take 4 (.agg (u8s x.1).toArray) rfl 26 rfl (by kernel_rfl) (by kernel_rfl) (by kernel_rfl) (by kernel_rfl) (fun _ _ _ h => h) (fun w' hw => run_op_load _ _ rfl g (0 + k * 33) rfl (u8s x.1) hw.2.1 (szH KX.out)) ⟨X_102, D_102, trivial⟩ ?_
        simp only [Act.put, List.setIfInBounds_toArray, List.set_cons_zero, List.set_cons_succ]
        refine h_take 5 (.agg (u8s h).toArray) rfl 27 rfl (by kernel_rfl) (by kernel_rfl) (by kernel_rfl) (by kernel_rfl) (fun _ _ _ h => h) (fun w' hw => run_op_load _ _ rfl X (0) rfl (u8s h) (((Has.refl _)).range hw.1) ((szH KH.out))) ⟨X_102, D_102, trivial⟩ ?_
        simp only [Act.put, List.setIfInBounds_toArray, List.set_cons_zero, List.set_cons_succ]
        refine h_take 6 (.bool false) rfl 28 rfl (by kernel_rfl) (by kernel_rfl) (by kernel_rfl) (by kernel_rfl) (fun _ _ _ h => h) (fun w' _ => run_op_eqlV _ _ _ rfl x.1 h KX.out KH.out rfl rfl false de w') ⟨X_102, D_102, trivial⟩ ?_
        simp only [Act.put, List.setIfInBounds_toArray, List.set_cons_zero, List.set_cons_succ]
        refine wpAnyH_done (by kernel_rfl) ?_ _
        clear D_102
        go_wp2_with fail
        go_roundw
        case rel => exact ⟨⟨k + 1, by omega, by go_num, fun j y hj hy => by
          rcases Nat.lt_or_ge j k with q | q
          · exact HNE.out j y q hy
          · obtain rfl : j = k := by omega
            rw [HX1.out] at hy
            cases hy
            exact he⟩, below_step BEL.out BEL.out.size W_102⟩
        case measure => simp [intOf]; omega
    · obtain rfl : k = L.length := by omega
      have hi := get_no hne
      have belF : Chg F w wr := bel0.more (fun k hk => hk.elim)
      clear hne bel bel0 hlt hk
      by_cases hl : L.length < r
      · skip
        have d1 : decide ((L.length : Int) < (r : Int)) = true := decide_eq_true (by omega)
        have HPV : Hid (L ++ [(h, b)] = putV r L h b) := Lib.hid (put_room hi hl).symm
        have HG : Hid (goneV r L h = zh) := Lib.hid (by unfold goneV; rw [full_room hl]; rfl)
        have HF : Hid (fullV r L h = false) := Lib.hid (full_room hl)
        have HLN : Hid (L.length + [(h, b)].length ≤ 1000000) := Lib.hid (by rw [List.length_singleton]; omega)
        clear hi hl hL
        have hc1 := hCr.cell (i := 1) rfl
        have hsz := belF.size
        go_wp2_with (first
          | ((with_reducible refine at_slot 45 ?_); (refine arm_want (.bool true) 45 rfl (by kernel_rfl) (cmp_lss _ _ _ _ rfl .i64 ((L.length : Int)) ((r : Int)) rfl rfl true (d1) _) ?_); try simp only [Act.put, List.setIfInBounds_toArray, List.set_cons_zero, List.set_cons_succ])
          | ((with_reducible refine at_slot 48 ?_); (refine arm_load (o := ⟨some 48, _, _, _, _, _⟩) rfl _ _ rfl X 0 rfl (u8s h) ((Has.refl _).range hXr) (szH KH.out) ?_); try simp only [Act.put, List.setIfInBounds_toArray, List.set_cons_zero, List.set_cons_succ])
          | ((with_reducible refine at_slot 50 ?_); (refine arm_build (o := ⟨some 50, _, _, _, _, _⟩) rfl _ _ rfl (prc (h, b)) (by simp only [List.map_toArray, List.map_cons, List.map_nil]; exact BP.out b) ?_); try simp only [Act.put, List.setIfInBounds_toArray, List.set_cons_zero, List.set_cons_succ])
          | ((with_reducible refine at_slot 51 ?_); (refine Sl.arm_lit (o := ⟨some 51, _, _, _, _, _⟩) rfl fP [(h, b)] (Sl.allOk_cons (show PrOk (h, b) from KH.out) Sl.allOk_nil) (by simp) _ _ rfl rfl (by simp only [List.map_toArray, List.map_cons, List.map_nil]; rfl) ?_); intro N v1 Ne hv1 nv1; try simp only [Act.put, List.setIfInBounds_toArray, List.set_cons_zero, List.set_cons_succ])
          | ((with_reducible refine at_slot 52 ?_); (refine Sl.arm_appendQ (o := ⟨some 52, _, _, _, _, _⟩) rfl fP _ _ rfl w.heap.size q _ cq L rfl rfl (hOr.below nv1.below) (some ⟨N, 0, none⟩) 1 1 [(h, b)] rfl rfl (Sl.At.row (c := []) fP (Sl.allOk_cons (show PrOk (h, b) from KH.out) Sl.allOk_nil) hv1 (List.append_nil _).symm) HLN.out (Nat.le_trans hsz nv1.below.size) ?_); intro p' c' yA hO2 hB2 hk2 hb2; rw [HPV.out] at hO2 ⊢; try simp only [Act.put, List.setIfInBounds_toArray, List.set_cons_zero, List.set_cons_succ]; refine fpause ?_; try simp only [Act.put, List.setIfInBounds_toArray, List.set_cons_zero, List.set_cons_succ]))
        have hcA := Sl.chg_app hB2 hk2
        have nb1 := nv1.below
        clear hc1 hB2 hk2 hb2 Ne hv1 nv1
        have C_601 : Row v1 C 42 (rcs r p L.length cap) := hCr.old nb1
        have X_601 : Row v1 X 32 (u8s h) := hXr.old nb1
        have R_601 : Row v1 R 32 (u8s zh) := hRr.old nb1
        have O_601 : Own kP v1 w.heap.size q cq L := hOr.below nb1
        have bel_601 : Chg F w v1 := belF.old nb1
        clear hCr hXr hRr hOr belF nb1
        have hgq : From (fun k => bk q = some k) w.heap.size := fun k e => (O_601.ge e).1
        have C_602 : Row yA C 42 (rcs r p L.length cap) := C_601.chg hcA (O_601.ne C_601 (by decide))
        have X_602 : Row yA X 32 (u8s h) := X_601.chg hcA (O_601.ne X_601 (by decide))
        have R_602 : Row yA R 32 (u8s zh) := R_601.chg hcA (O_601.ne R_601 (by decide))
        have O_602 : Own kP yA w.heap.size p' c' (putV r L h b) := hO2
        have bel_602 : Chg F w yA := bel_601.fresh hcA hgq
        clear C_601 X_601 R_601 O_601 bel_601 hcA
        refine fgo ?_
        go_wp2_with (first
          | ((with_reducible refine arm_storeV (o := ⟨none, _, _, _, _, _⟩) rfl _ _ _ rfl C (0) rfl (.slice p' (putV r L h b).length c') rfl (one_sl _ _ _) sz_slP _ _ (C_602) (lt_rcs _ _ _ _) ?_); intro yC hyC oyC syC; try simp only [Act.put, List.setIfInBounds_toArray, List.set_cons_zero, List.set_cons_succ]; refine fpause ?_; try simp only [Act.put, List.setIfInBounds_toArray, List.set_cons_zero, List.set_cons_succ]))
        have nXC := X_602.ne_type C_602 (by decide); have nRC := R_602.ne_type C_602 (by decide)
        have hC3 : Row yC C 42 (rcs r p' (putV r L h b).length c') := hyC
        clear hyC syC
        have C_603 : Row yC C 42 (rcs r p' (putV r L h b).length c') := hC3
        have X_603 : Row yC X 32 (u8s h) := X_602.only oyC nXC
        have R_603 : Row yC R 32 (u8s zh) := R_602.only oyC nRC
        have O_603 : Own kP yC w.heap.size p' c' (putV r L h b) := O_602.only oyC (O_602.ne C_602 (by decide))
        have bel_603 : Chg F w yC := bel_602.only oyC (FB.out)
        clear C_602 X_602 R_602 O_602 bel_602 oyC
        refine fgo ?_
        go_wp2_with (first
          | ((with_reducible refine at_slot 55 ?_); (refine arm_build (o := ⟨some 55, _, _, _, _, _⟩) rfl _ _ rfl (u8s zh) (by kernel_rfl) ?_); try simp only [Act.put, List.setIfInBounds_toArray, List.set_cons_zero, List.set_cons_succ])
          | ((with_reducible refine arm_store (o := ⟨none, _, _, _, _, _⟩) rfl _ _ _ rfl R 0 rfl (u8s zh) rfl _ _ R_603 (fitH zh_ok) (u8s_one _) (szH zh_ok) ?_); intro yR hR oR sR; try simp only [Act.put, List.setIfInBounds_toArray, List.set_cons_zero, List.set_cons_succ]))
        refine bodyPost_ret (result_row2 (p := 6) (u := 7) (ty := 32) (t := 32) (by kernel_rfl) _ _ R (u8s (zh)) (.bool false) rfl rfl (hR.congr (allH zh_ok)) (szH zh_ok)) rfl ?_
        have hsz3 := bel_603.size; have hsz4 := oR.size
        exact ⟨by rw [HG.out, HF.out], rput_done (C_603.only oR (Ne.symm nRC)) (O_603.only oR (O_603.ne R_603 (by decide))) HPO.out HLI.out (by omega) FB.out, bel_603.new oR geR⟩
      · skip
        have d1 : decide ((L.length : Int) < (r : Int)) = false := decide_eq_false (by omega)
        have HPV : Hid (L.drop 1 ++ [(h, b)] = putV r L h b) := Lib.hid (by rw [put_full hi hl, List.drop_one])
        have hL1 : 0 < L.length := by have := HOK.out.pos; omega
        obtain ⟨x0, g, o, hx0, kx0, hp0, hg0, hr0⟩ := (hOr.at fP).get hL1
        obtain ⟨g', cs', rr', hp', hgw, _, _, _⟩ := hOr.as_row hL1
        obtain ⟨rfl, rfl⟩ : g = g' ∧ o = 0 := by rw [hp0] at hp'; simpa using hp'
        subst hp0
        have HQ0 : Hid (H32 x0.1) := Lib.hid kx0
        have HG : Hid (goneV r L h = x0.1) := Lib.hid (by
          unfold goneV
          rw [full_yes hi hl, if_pos rfl]
          cases L with
          | nil => simp at hL1
          | cons y M => simp only [List.getElem?_cons_zero, Option.some.injEq] at hx0; rw [hx0]; rfl)
        have HF : Hid (fullV r L h = true) := Lib.hid (full_yes hi hl)
        have HAT0 : Hid (∀ w0, Own kP w0 w.heap.size (some ⟨g, 0, none⟩) cq L → w0.rangeAt g (0 + 0 * 33) (u8s x0.1)) := Lib.hid (fun w0 h0 => by
          obtain ⟨g3, o3, e3, _, hr3⟩ := (h0.at fP).at_ 0 x0 hx0
          obtain ⟨rfl, rfl⟩ : g = g3 ∧ 0 = o3 := by simpa using e3
          exact fun j v hj => hr3 j v (by show (u8s x0.1 ++ [Value.bool x0.2])[j]? = some v; rw [List.getElem?_append_left (List.getElem?_eq_some_iff.1 hj).1]; exact hj))
        have HDL : Hid (L.length - 1 = (L.drop 1).length) := Lib.hid (by rw [List.length_drop])
        have HLN : Hid ((L.drop 1).length + [(h, b)].length ≤ 1000000) := Lib.hid (by rw [List.length_drop, List.length_singleton]; omega)
        have HLM : Hid (([] : VL).length + (L.drop 1).length ≤ 1000000) := Lib.hid (by rw [List.length_drop, List.length_nil]; omega)
        have HCQ := Lib.hid hOr.cap
        clear hi hl hL hx0 kx0 hp' hr0
        have hc1 := hCr.cell (i := 1) rfl
        go_wp2_with (first
          | ((with_reducible refine at_slot 45 ?_); (refine arm_want (.bool false) 45 rfl (by kernel_rfl) (cmp_lss _ _ _ _ rfl .i64 ((L.length : Int)) ((r : Int)) rfl rfl false (d1) _) ?_); try simp only [Act.put, List.setIfInBounds_toArray, List.set_cons_zero, List.set_cons_succ]))
        clear hc1
        refine wp_region_held (S := fun w' => Row w' X 32 (u8s h) ∧ True) (by kernel_rfl) ?_
        change wpAnyH _ _ _ _ _ _ _ _ wr.drew
        have hd601 : Below wr.heap.size wr wr.drew := (Below.refl _ _).drew
        have C_602 : Row wr.drew C 42 (rcs r p L.length cap) := hCr.old hd601
        have X_602 : Row wr.drew X 32 (u8s h) := hXr.old hd601
        have R_602 : Row wr.drew R 32 (u8s zh) := hRr.old hd601
        have O_602 : Own kP wr.drew w.heap.size (some ⟨g, 0, none⟩) cq L := hOr.below hd601
        have bel_602 : Chg F w wr.drew := belF.old hd601
        clear hCr hXr hRr hOr belF hd601
        generalize wr.drew = yz601 at C_602 X_602 R_602 O_602 bel_602 ⊢
        refine h_take 0 (.pointer (some ⟨C, 0, none⟩)) rfl 56 rfl (by kernel_rfl) (by kernel_rfl) (by kernel_rfl) (by kernel_rfl) (fun _ _ _ h => h) (fun w' _ => by kernel_rfl) ⟨X_602, trivial⟩ ?_
        simp only [Act.put, List.setIfInBounds_toArray, List.set_cons_zero, List.set_cons_succ]
        refine h_take 2 (.slice (some ⟨g, 0, none⟩) L.length cq) rfl 58 rfl (by kernel_rfl) (by kernel_rfl) (by kernel_rfl) (by kernel_rfl) (fun _ _ _ h => h) (fun w' _ => by kernel_rfl) ⟨X_602, trivial⟩ ?_
        simp only [Act.put, List.setIfInBounds_toArray, List.set_cons_zero, List.set_cons_succ]
        refine h_take 3 (.slice (Sl.onN (some ⟨g, 0, none⟩) 1 33 cq) (L.length - 1) (cq - 1)) rfl 59 rfl (by kernel_rfl) (by kernel_rfl) (by kernel_rfl) (by kernel_rfl) (fun _ _ _ h => h) (fun w' _ => Sl.run_op_tail fP _ _ rfl _ _ _ rfl .i64 _ rfl 1 rfl hL1 w') ⟨X_602, trivial⟩ ?_
        simp only [Act.put, List.setIfInBounds_toArray, List.set_cons_zero, List.set_cons_succ]
        refine h_take 5 (.agg (u8s h).toArray) rfl 61 rfl (by kernel_rfl) (by kernel_rfl) (by kernel_rfl) (by kernel_rfl) (fun _ _ _ h => h) (fun w' hw => run_op_load _ _ rfl X (0) rfl (u8s h) (((Has.refl _)).range hw.1) ((szH KH.out))) ⟨X_602, trivial⟩ ?_
        simp only [Act.put, List.setIfInBounds_toArray, List.set_cons_zero, List.set_cons_succ]
        refine h_take 6 (.bool b) rfl 62 rfl (by kernel_rfl) (by kernel_rfl) (by kernel_rfl) (by kernel_rfl) (fun _ _ _ h => h) (fun w' _ => by kernel_rfl) ⟨X_602, trivial⟩ ?_
        simp only [Act.put, List.setIfInBounds_toArray, List.set_cons_zero, List.set_cons_succ]
        refine h_take 7 (.agg (prc (h, b)).toArray) rfl 63 rfl (by kernel_rfl) (by kernel_rfl) (by kernel_rfl) (by kernel_rfl) (fun _ _ _ h => h) (fun w' _ => run_op_build _ _ rfl (prc (h, b)) (by simp only [List.map_toArray, List.map_cons, List.map_nil]; exact BP.out b) w') ⟨X_602, trivial⟩ ?_
        simp only [Act.put, List.setIfInBounds_toArray, List.set_cons_zero, List.set_cons_succ]
        refine h_two (i := 1) (j := 8) (by kernel_rfl) ?_ ?_
        · skip
          have hqE : ∀ k, bk (some ⟨g, 0, none⟩) = some k → k < yz601.heap.size := fun k e => (O_602.ge e).2
          refine (o_value _ rfl 57 rfl (by kernel_rfl) (Sl.run_op_lit fP [] Sl.allOk_nil (by simp) 0 _ rfl rfl (by simp only [List.map_toArray, List.map_nil]; rfl)) ?_)
          have hNy603 := (new_alloc yz601 (.cells (Sl.Kind.all kP []).toArray 57)).below
          have rNy603 : Row (yz601.alloc (.cells (Sl.Kind.all kP []).toArray 57)) yz601.heap.size 57 (Sl.Kind.all kP []) := heap_alloc_new _ _
          have geE : w.heap.size ≤ yz601.heap.size := bel_602.size
          generalize yz601.alloc (.cells (Sl.Kind.all kP []).toArray 57) = y603 at hNy603 rNy603 ⊢
          have C_604 : Row y603 C 42 (rcs r p L.length cap) := C_602.old hNy603
          have X_604 : Row y603 X 32 (u8s h) := X_602.old hNy603
          have R_604 : Row y603 R 32 (u8s zh) := R_602.old hNy603
          have O_604 : Own kP y603 w.heap.size (some ⟨g, 0, none⟩) cq L := O_602.below hNy603
          have bel_604 : Chg F w y603 := bel_602.old hNy603
          clear C_602 X_602 R_602 O_602 bel_602 hNy603
          generalize yz601.heap.size = E at rNy603 geE hqE ⊢
          refine ⟨⟨X_604, trivial⟩, ?_⟩
          simp only [Act.put, List.setIfInBounds_toArray, List.set_cons_zero, List.set_cons_succ]
          refine h_two (i := 4) (j := 8) (by kernel_rfl) ?_ ?_
          · skip
            have oE : Own kP y603 w.heap.size (some ⟨E, 0, none⟩) 0 [] := Sl.Own.row fP Sl.allOk_nil geE (Nat.zero_le _) rNy603
            have atT : At kP y603 (Sl.onN (some ⟨g, 0, none⟩) 1 33 cq) (L.drop 1) := (O_604.at fP).tail 1 HCQ.out
            have hbs := bel_604.size
            refine (Sl.o_appendQ rfl 60 rfl (by kernel_rfl) fP _ _ rfl w.heap.size (some ⟨E, 0, none⟩) 0 0 [] rfl rfl oE (Sl.onN (some ⟨g, 0, none⟩) 1 33 cq) (L.length - 1) (cq - 1) (L.drop 1) rfl HDL.out atT HLM.out hbs ?_)
            intro p1 c1 yA hO1 hB1 hk1 hb1
            have hcA := Sl.chg_app hB1 hk1
            have hfE : From (fun k => bk (some ⟨E, 0, none⟩) = some k) w.heap.size := fun k e => by cases e; exact geE
            have hq1 : ∀ k, bk (some ⟨g, 0, none⟩) = some k → bk p1 ≠ some k := fun k e e2 => by
              have h1 := hqE k e
              have h2 := (O_604.ge e).2
              rcases hb1.out with q | q
              · rw [e2] at q
                have q2 : k = E := Option.some.inj q
                omega
              · rw [e2] at q
                have q2 := Option.some.inj q
                omega
            try simp only [List.nil_append] at hO1 ⊢
            clear oE atT hbs hB1 hk1 hb1
            have C_605 : Row yA C 42 (rcs r p L.length cap) := C_604.chg hcA (fun e => (C_604.ne_type rNy603 (by decide)) (Option.some.inj e).symm)
            have X_605 : Row yA X 32 (u8s h) := X_604.chg hcA (fun e => (X_604.ne_type rNy603 (by decide)) (Option.some.inj e).symm)
            have R_605 : Row yA R 32 (u8s zh) := R_604.chg hcA (fun e => (R_604.ne_type rNy603 (by decide)) (Option.some.inj e).symm)
            have O_605 : Own kP yA w.heap.size (some ⟨g, 0, none⟩) cq L := O_604.chg hcA (fun k e e2 => by have h1 := hqE k e; have h2 : E = k := Option.some.inj e2; omega)
            have bel_605 : Chg F w yA := bel_604.fresh hcA hfE
            clear C_604 X_604 R_604 O_604 bel_604 hcA
            refine ⟨⟨X_605, trivial⟩, ?_⟩
            simp only [Act.put, List.setIfInBounds_toArray, List.set_cons_zero, List.set_cons_succ]
            have hpN : ∀ k, bk p1 = some k → k < yA.heap.size := fun k e => (hO1.ge e).2
            refine h_one (i := 8) (by kernel_rfl) (o_value _ rfl 64 rfl (by kernel_rfl) (Sl.run_op_lit fP [(h, b)] (Sl.allOk_cons (show PrOk (h, b) from KH.out) Sl.allOk_nil) (by simp) 1 _ rfl rfl (by simp only [List.map_toArray, List.map_cons, List.map_nil]; rfl)) ?_)
            have hNy606 := (new_alloc yA (.cells (Sl.Kind.all kP [(h, b)]).toArray 57)).below
            have rNy606 : Row (yA.alloc (.cells (Sl.Kind.all kP [(h, b)]).toArray 57)) yA.heap.size 57 (Sl.Kind.all kP [(h, b)]) := heap_alloc_new _ _
            have geN : w.heap.size ≤ yA.heap.size := bel_605.size
            generalize yA.alloc (.cells (Sl.Kind.all kP [(h, b)]).toArray 57) = y606 at hNy606 rNy606 ⊢
            have C_607 : Row y606 C 42 (rcs r p L.length cap) := C_605.old hNy606
            have X_607 : Row y606 X 32 (u8s h) := X_605.old hNy606
            have R_607 : Row y606 R 32 (u8s zh) := R_605.old hNy606
            have O_607 : Own kP y606 w.heap.size (some ⟨g, 0, none⟩) cq L := O_605.below hNy606
            have P_607 : Own kP y606 w.heap.size p1 c1 (L.drop 1) := hO1.below hNy606
            have bel_607 : Chg F w y606 := bel_605.old hNy606
            clear C_605 X_605 R_605 O_605 hO1 bel_605 hNy606
            generalize yA.heap.size = N at rNy606 geN hpN ⊢
            refine ⟨⟨X_607, trivial⟩, ?_⟩
            simp only [Act.put, List.setIfInBounds_toArray, List.set_cons_zero, List.set_cons_succ]
            have atN : At kP y606 (some ⟨N, 0, none⟩) [(h, b)] := Sl.At.row (c := []) fP (Sl.allOk_cons (show PrOk (h, b) from KH.out) Sl.allOk_nil) rNy606 (List.append_nil _).symm
            have hbs := bel_607.size
            refine h_one (i := 9) (by kernel_rfl) (Sl.o_appendQ rfl 65 rfl (by kernel_rfl) fP _ _ rfl w.heap.size p1 _ c1 (L.drop 1) rfl rfl P_607 (some ⟨N, 0, none⟩) 1 1 [(h, b)] rfl rfl atN HLN.out hbs ?_)
            intro p2 c2 yB hO2 hB2 hk2 hb2
            have hcB := Sl.chg_app hB2 hk2
            have hfP : From (fun k => bk p1 = some k) w.heap.size := fun k e => (P_607.ge e).1
            rw [HPV.out] at hO2
            have hLP : Hid ((L.drop 1 ++ [(h, b)]).length = (putV r L h b).length) := Lib.hid (by rw [HPV.out])
            clear atN hbs hB2 hk2 hb2
            clear rNy606
            have C_608 : Row yB C 42 (rcs r p L.length cap) := C_607.chg hcB (P_607.ne C_607 (by decide))
            have X_608 : Row yB X 32 (u8s h) := X_607.chg hcB (P_607.ne X_607 (by decide))
            have R_608 : Row yB R 32 (u8s zh) := R_607.chg hcB (P_607.ne R_607 (by decide))
            have O_608 : Own kP yB w.heap.size (some ⟨g, 0, none⟩) cq L := O_607.chg hcB hq1
            have bel_608 : Chg F w yB := bel_607.fresh hcB hfP
            clear C_607 X_607 R_607 O_607 bel_607 hcB
            refine ⟨⟨X_608, trivial⟩, ?_⟩
            simp only [Act.put, List.setIfInBounds_toArray, List.set_cons_zero, List.set_cons_succ]
            refine h_take 10 (.pointer (some ⟨C, 0, none⟩)) rfl 66 rfl (by kernel_rfl) (by kernel_rfl) (by kernel_rfl) (by kernel_rfl) (fun _ _ _ h => h) (fun w' _ => by kernel_rfl) ⟨X_608, trivial⟩ ?_
            simp only [Act.put, List.setIfInBounds_toArray, List.set_cons_zero, List.set_cons_succ]
            refine h_take 11 (.pointer (some ⟨C, 0, none⟩)) rfl 67 rfl (by kernel_rfl) (by kernel_rfl) (by kernel_rfl) (by kernel_rfl) (fun _ _ _ h => h) (fun w' _ => by kernel_rfl) ⟨X_608, trivial⟩ ?_
            simp only [Act.put, List.setIfInBounds_toArray, List.set_cons_zero, List.set_cons_succ]
            refine h_one (i := 12) (by kernel_rfl) (o_skip rfl rfl (by kernel_rfl) (run_op_storeV _ _ _ rfl C 0 rfl (.slice p2 (L.drop 1 ++ [(h, b)]).length c2) rfl (one_sl _ _ _) sz_slP _ _ C_608 (lt_rcs _ _ _ _)) ?_)
            have hyC := row_setRow C_608 ((rcs r p L.length cap).set 0 (.slice p2 (L.drop 1 ++ [(h, b)]).length c2))
            have oyC := Only.setRow C yB ((rcs r p L.length cap).set 0 (.slice p2 (L.drop 1 ++ [(h, b)]).length c2)).toArray
            generalize yB.setRow C ((rcs r p L.length cap).set 0 (.slice p2 (L.drop 1 ++ [(h, b)]).length c2)).toArray = yC at hyC oyC ⊢
            have nXC := X_608.ne_type C_608 (by decide); have nRC := R_608.ne_type C_608 (by decide)
            have hC3 : Row yC C 42 (rcs r p2 (putV r L h b).length c2) := by rw [← hLP.out]; exact hyC
            clear hyC
            have C_609 : Row yC C 42 (rcs r p2 (putV r L h b).length c2) := hC3
            have X_609 : Row yC X 32 (u8s h) := X_608.only oyC nXC
            have R_609 : Row yC R 32 (u8s zh) := R_608.only oyC nRC
            have O_609 : Own kP yC w.heap.size (some ⟨g, 0, none⟩) cq L := O_608.only oyC (O_608.ne C_608 (by decide))
            have P_609 : Own kP yC w.heap.size p2 c2 (putV r L h b) := hO2.only oyC (hO2.ne C_608 (by decide))
            have bel_609 : Chg F w yC := bel_608.only oyC (FB.out)
            clear C_608 X_608 R_608 O_608 hO2 bel_608 oyC
            refine ⟨⟨X_609, trivial⟩, ?_⟩
            refine wpAnyH_done (by kernel_rfl) ?_ _
            have hr0 := HAT0.out _ O_609
            go_wp2_with (first
              | ((with_reducible refine at_slot 69 ?_); (refine arm_want (.pointer (some ⟨g, 0 + 0 * 33, none⟩)) 69 rfl (by kernel_rfl) (Sl.run_op_index fP _ _ rfl g 0 _ _ rfl .i64 _ rfl 0 rfl (hL1) _) ?_); try simp only [Act.put, List.setIfInBounds_toArray, List.set_cons_zero, List.set_cons_succ])
              | ((with_reducible refine at_slot 71 ?_); (refine arm_load (o := ⟨some 71, _, _, _, _, _⟩) rfl _ _ rfl g (0 + 0 * 33) rfl (u8s x0.1) (hr0) (szH HQ0.out) ?_); try simp only [Act.put, List.setIfInBounds_toArray, List.set_cons_zero, List.set_cons_succ])
              | ((with_reducible refine arm_store (o := ⟨none, _, _, _, _, _⟩) rfl _ _ _ rfl R 0 rfl (u8s x0.1) rfl _ _ R_609 (fitH HQ0.out) (u8s_one _) (szH HQ0.out) ?_); intro yR hR oR sR; try simp only [Act.put, List.setIfInBounds_toArray, List.set_cons_zero, List.set_cons_succ]))
            refine bodyPost_ret (result_row2 (p := 6) (u := 7) (ty := 32) (t := 32) (by kernel_rfl) _ _ R (u8s x0.1) (.bool true) rfl rfl (hR.congr (allH HQ0.out)) (szH HQ0.out)) rfl ?_
            have hsz3 := bel_609.size; have hsz4 := oR.size
            exact ⟨by rw [HG.out, HF.out], rput_done (C_609.only oR (Ne.symm nRC)) (P_609.only oR (P_609.ne R_609 (by decide))) HPO.out HLI.out (by omega) FB.out, bel_609.new oR geR⟩
          · skip
            have hEl := rNy603.lt
            refine (o_value _ rfl 64 rfl (by kernel_rfl) (Sl.run_op_lit fP [(h, b)] (Sl.allOk_cons (show PrOk (h, b) from KH.out) Sl.allOk_nil) (by simp) 1 _ rfl rfl (by simp only [List.map_toArray, List.map_cons, List.map_nil]; rfl)) ?_)
            have hNy605 := (new_alloc y603 (.cells (Sl.Kind.all kP [(h, b)]).toArray 57)).below
            have rNy605 : Row (y603.alloc (.cells (Sl.Kind.all kP [(h, b)]).toArray 57)) y603.heap.size 57 (Sl.Kind.all kP [(h, b)]) := heap_alloc_new _ _
            have geN : w.heap.size ≤ y603.heap.size := bel_604.size
            generalize y603.alloc (.cells (Sl.Kind.all kP [(h, b)]).toArray 57) = y605 at hNy605 rNy605 ⊢
            have C_606 : Row y605 C 42 (rcs r p L.length cap) := C_604.old hNy605
            have X_606 : Row y605 X 32 (u8s h) := X_604.old hNy605
            have R_606 : Row y605 R 32 (u8s zh) := R_604.old hNy605
            have O_606 : Own kP y605 w.heap.size (some ⟨g, 0, none⟩) cq L := O_604.below hNy605
            have E_606 : Row y605 E 57 (Sl.Kind.all kP []) := rNy603.old hNy605
            have bel_606 : Chg F w y605 := bel_604.old hNy605
            clear C_604 X_604 R_604 O_604 rNy603 bel_604 hNy605
            generalize y603.heap.size = N at rNy605 geN hEl ⊢
            refine ⟨⟨X_606, trivial⟩, ?_⟩
            simp only [Act.put, List.setIfInBounds_toArray, List.set_cons_zero, List.set_cons_succ]
            have hNE : ¬ N = E := by omega
            have oE : Own kP y605 w.heap.size (some ⟨E, 0, none⟩) 0 [] := Sl.Own.row fP Sl.allOk_nil geE (Nat.zero_le _) E_606
            have atT : At kP y605 (Sl.onN (some ⟨g, 0, none⟩) 1 33 cq) (L.drop 1) := (O_606.at fP).tail 1 HCQ.out
            have hbs := bel_606.size
            refine h_one (i := 4) (by kernel_rfl) (Sl.o_appendQ rfl 60 rfl (by kernel_rfl) fP _ _ rfl w.heap.size (some ⟨E, 0, none⟩) 0 0 [] rfl rfl oE (Sl.onN (some ⟨g, 0, none⟩) 1 33 cq) (L.length - 1) (cq - 1) (L.drop 1) rfl HDL.out atT HLM.out hbs ?_)
            intro p1 c1 yA hO1 hB1 hk1 hb1
            have hcA := Sl.chg_app hB1 hk1
            have hfE : From (fun k => bk (some ⟨E, 0, none⟩) = some k) w.heap.size := fun k e => by cases e; exact geE
            have hq1 : ∀ k, bk (some ⟨g, 0, none⟩) = some k → bk p1 ≠ some k := fun k e e2 => by
              have h1 := hqE k e
              have h2 := (O_606.ge e).2
              rcases hb1.out with q | q
              · rw [e2] at q
                have q2 : k = E := Option.some.inj q
                omega
              · rw [e2] at q
                have q2 := Option.some.inj q
                omega
            try simp only [List.nil_append] at hO1 ⊢
            clear oE atT hbs hB1 hk1 hb1
            have C_607 : Row yA C 42 (rcs r p L.length cap) := C_606.chg hcA (fun e => (C_606.ne_type E_606 (by decide)) (Option.some.inj e).symm)
            have X_607 : Row yA X 32 (u8s h) := X_606.chg hcA (fun e => (X_606.ne_type E_606 (by decide)) (Option.some.inj e).symm)
            have R_607 : Row yA R 32 (u8s zh) := R_606.chg hcA (fun e => (R_606.ne_type E_606 (by decide)) (Option.some.inj e).symm)
            have O_607 : Own kP yA w.heap.size (some ⟨g, 0, none⟩) cq L := O_606.chg hcA (fun k e e2 => by have h1 := hqE k e; have h2 : E = k := Option.some.inj e2; omega)
            have N_607 : Row yA N 57 (Sl.Kind.all kP [(h, b)]) := rNy605.chg hcA (fun e => hNE (Option.some.inj e).symm)
            have bel_607 : Chg F w yA := bel_606.fresh hcA hfE
            clear C_606 X_606 R_606 O_606 rNy605 bel_606 hcA
            refine ⟨⟨X_607, trivial⟩, ?_⟩
            simp only [Act.put, List.setIfInBounds_toArray, List.set_cons_zero, List.set_cons_succ]
            have atN : At kP yA (some ⟨N, 0, none⟩) [(h, b)] := Sl.At.row (c := []) fP (Sl.allOk_cons (show PrOk (h, b) from KH.out) Sl.allOk_nil) N_607 (List.append_nil _).symm
            have hbs := bel_607.size
            refine h_one (i := 9) (by kernel_rfl) (Sl.o_appendQ rfl 65 rfl (by kernel_rfl) fP _ _ rfl w.heap.size p1 _ c1 (L.drop 1) rfl rfl hO1 (some ⟨N, 0, none⟩) 1 1 [(h, b)] rfl rfl atN HLN.out hbs ?_)
            intro p2 c2 yB hO2 hB2 hk2 hb2
            have hcB := Sl.chg_app hB2 hk2
            have hfP : From (fun k => bk p1 = some k) w.heap.size := fun k e => (hO1.ge e).1
            rw [HPV.out] at hO2
            have hLP : Hid ((L.drop 1 ++ [(h, b)]).length = (putV r L h b).length) := Lib.hid (by rw [HPV.out])
            clear atN hbs hB2 hk2 hb2
            clear N_607
            have C_608 : Row yB C 42 (rcs r p L.length cap) := C_607.chg hcB (hO1.ne C_607 (by decide))
            have X_608 : Row yB X 32 (u8s h) := X_607.chg hcB (hO1.ne X_607 (by decide))
            have R_608 : Row yB R 32 (u8s zh) := R_607.chg hcB (hO1.ne R_607 (by decide))
            have O_608 : Own kP yB w.heap.size (some ⟨g, 0, none⟩) cq L := O_607.chg hcB hq1
            have bel_608 : Chg F w yB := bel_607.fresh hcB hfP
            clear C_607 X_607 R_607 O_607 bel_607 hcB
            refine ⟨⟨X_608, trivial⟩, ?_⟩
            simp only [Act.put, List.setIfInBounds_toArray, List.set_cons_zero, List.set_cons_succ]
            refine h_take 10 (.pointer (some ⟨C, 0, none⟩)) rfl 66 rfl (by kernel_rfl) (by kernel_rfl) (by kernel_rfl) (by kernel_rfl) (fun _ _ _ h => h) (fun w' _ => by kernel_rfl) ⟨X_608, trivial⟩ ?_
            simp only [Act.put, List.setIfInBounds_toArray, List.set_cons_zero, List.set_cons_succ]
            refine h_take 11 (.pointer (some ⟨C, 0, none⟩)) rfl 67 rfl (by kernel_rfl) (by kernel_rfl) (by kernel_rfl) (by kernel_rfl) (fun _ _ _ h => h) (fun w' _ => by kernel_rfl) ⟨X_608, trivial⟩ ?_
            simp only [Act.put, List.setIfInBounds_toArray, List.set_cons_zero, List.set_cons_succ]
            refine h_one (i := 12) (by kernel_rfl) (o_skip rfl rfl (by kernel_rfl) (run_op_storeV _ _ _ rfl C 0 rfl (.slice p2 (L.drop 1 ++ [(h, b)]).length c2) rfl (one_sl _ _ _) sz_slP _ _ C_608 (lt_rcs _ _ _ _)) ?_)
            have hyC := row_setRow C_608 ((rcs r p L.length cap).set 0 (.slice p2 (L.drop 1 ++ [(h, b)]).length c2))
            have oyC := Only.setRow C yB ((rcs r p L.length cap).set 0 (.slice p2 (L.drop 1 ++ [(h, b)]).length c2)).toArray
            generalize yB.setRow C ((rcs r p L.length cap).set 0 (.slice p2 (L.drop 1 ++ [(h, b)]).length c2)).toArray = yC at hyC oyC ⊢
            have nXC := X_608.ne_type C_608 (by decide); have nRC := R_608.ne_type C_608 (by decide)
            have hC3 : Row yC C 42 (rcs r p2 (putV r L h b).length c2) := by rw [← hLP.out]; exact hyC
            clear hyC
            have C_609 : Row yC C 42 (rcs r p2 (putV r L h b).length c2) := hC3
            have X_609 : Row yC X 32 (u8s h) := X_608.only oyC nXC
            have R_609 : Row yC R 32 (u8s zh) := R_608.only oyC nRC
            have O_609 : Own kP yC w.heap.size (some ⟨g, 0, none⟩) cq L := O_608.only oyC (O_608.ne C_608 (by decide))
            have P_609 : Own kP yC w.heap.size p2 c2 (putV r L h b) := hO2.only oyC (hO2.ne C_608 (by decide))
            have bel_609 : Chg F w yC := bel_608.only oyC (FB.out)
            clear C_608 X_608 R_608 O_608 hO2 bel_608 oyC
            refine ⟨⟨X_609, trivial⟩, ?_⟩
            refine wpAnyH_done (by kernel_rfl) ?_ _
            have hr0 := HAT0.out _ O_609
            go_wp2_with (first
              | ((with_reducible refine at_slot 69 ?_); (refine arm_want (.pointer (some ⟨g, 0 + 0 * 33, none⟩)) 69 rfl (by kernel_rfl) (Sl.run_op_index fP _ _ rfl g 0 _ _ rfl .i64 _ rfl 0 rfl (hL1) _) ?_); try simp only [Act.put, List.setIfInBounds_toArray, List.set_cons_zero, List.set_cons_succ])
              | ((with_reducible refine at_slot 71 ?_); (refine arm_load (o := ⟨some 71, _, _, _, _, _⟩) rfl _ _ rfl g (0 + 0 * 33) rfl (u8s x0.1) (hr0) (szH HQ0.out) ?_); try simp only [Act.put, List.setIfInBounds_toArray, List.set_cons_zero, List.set_cons_succ])
              | ((with_reducible refine arm_store (o := ⟨none, _, _, _, _, _⟩) rfl _ _ _ rfl R 0 rfl (u8s x0.1) rfl _ _ R_609 (fitH HQ0.out) (u8s_one _) (szH HQ0.out) ?_); intro yR hR oR sR; try simp only [Act.put, List.setIfInBounds_toArray, List.set_cons_zero, List.set_cons_succ]))
            refine bodyPost_ret (result_row2 (p := 6) (u := 7) (ty := 32) (t := 32) (by kernel_rfl) _ _ R (u8s x0.1) (.bool true) rfl rfl (hR.congr (allH HQ0.out)) (szH HQ0.out)) rfl ?_
            have hsz3 := bel_609.size; have hsz4 := oR.size
            exact ⟨by rw [HG.out, HF.out], rput_done (C_609.only oR (Ne.symm nRC)) (P_609.only oR (P_609.ne R_609 (by decide))) HPO.out HLI.out (by omega) FB.out, bel_609.new oR geR⟩
        · skip
          refine (o_value _ rfl 64 rfl (by kernel_rfl) (Sl.run_op_lit fP [(h, b)] (Sl.allOk_cons (show PrOk (h, b) from KH.out) Sl.allOk_nil) (by simp) 1 _ rfl rfl (by simp only [List.map_toArray, List.map_cons, List.map_nil]; rfl)) ?_)
          have hNy603 := (new_alloc yz601 (.cells (Sl.Kind.all kP [(h, b)]).toArray 57)).below
          have rNy603 : Row (yz601.alloc (.cells (Sl.Kind.all kP [(h, b)]).toArray 57)) yz601.heap.size 57 (Sl.Kind.all kP [(h, b)]) := heap_alloc_new _ _
          have geN : w.heap.size ≤ yz601.heap.size := bel_602.size
          generalize yz601.alloc (.cells (Sl.Kind.all kP [(h, b)]).toArray 57) = y603 at hNy603 rNy603 ⊢
          have C_604 : Row y603 C 42 (rcs r p L.length cap) := C_602.old hNy603
          have X_604 : Row y603 X 32 (u8s h) := X_602.old hNy603
          have R_604 : Row y603 R 32 (u8s zh) := R_602.old hNy603
          have O_604 : Own kP y603 w.heap.size (some ⟨g, 0, none⟩) cq L := O_602.below hNy603
          have bel_604 : Chg F w y603 := bel_602.old hNy603
          clear C_602 X_602 R_602 O_602 bel_602 hNy603
          generalize yz601.heap.size = N at rNy603 geN  ⊢
          refine ⟨⟨X_604, trivial⟩, ?_⟩
          simp only [Act.put, List.setIfInBounds_toArray, List.set_cons_zero, List.set_cons_succ]
          have hNl := rNy603.lt
          have hqE : ∀ k, bk (some ⟨g, 0, none⟩) = some k → k < y603.heap.size := fun k e => (O_604.ge e).2
          refine h_one (i := 1) (by kernel_rfl) (o_value _ rfl 57 rfl (by kernel_rfl) (Sl.run_op_lit fP [] Sl.allOk_nil (by simp) 0 _ rfl rfl (by simp only [List.map_toArray, List.map_nil]; rfl)) ?_)
          have hNy605 := (new_alloc y603 (.cells (Sl.Kind.all kP []).toArray 57)).below
          have rNy605 : Row (y603.alloc (.cells (Sl.Kind.all kP []).toArray 57)) y603.heap.size 57 (Sl.Kind.all kP []) := heap_alloc_new _ _
          have geE : w.heap.size ≤ y603.heap.size := bel_604.size
          generalize y603.alloc (.cells (Sl.Kind.all kP []).toArray 57) = y605 at hNy605 rNy605 ⊢
          have C_606 : Row y605 C 42 (rcs r p L.length cap) := C_604.old hNy605
          have X_606 : Row y605 X 32 (u8s h) := X_604.old hNy605
          have R_606 : Row y605 R 32 (u8s zh) := R_604.old hNy605
          have O_606 : Own kP y605 w.heap.size (some ⟨g, 0, none⟩) cq L := O_604.below hNy605
          have N_606 : Row y605 N 57 (Sl.Kind.all kP [(h, b)]) := rNy603.old hNy605
          have bel_606 : Chg F w y605 := bel_604.old hNy605
          clear C_604 X_604 R_604 O_604 rNy603 bel_604 hNy605
          generalize y603.heap.size = E at rNy605 geE hqE hNl ⊢
          refine ⟨⟨X_606, trivial⟩, ?_⟩
          simp only [Act.put, List.setIfInBounds_toArray, List.set_cons_zero, List.set_cons_succ]
          have hNE : ¬ N = E := by omega
          have oE : Own kP y605 w.heap.size (some ⟨E, 0, none⟩) 0 [] := Sl.Own.row fP Sl.allOk_nil geE (Nat.zero_le _) rNy605
          have atT : At kP y605 (Sl.onN (some ⟨g, 0, none⟩) 1 33 cq) (L.drop 1) := (O_606.at fP).tail 1 HCQ.out
          have hbs := bel_606.size
          refine h_one (i := 4) (by kernel_rfl) (Sl.o_appendQ rfl 60 rfl (by kernel_rfl) fP _ _ rfl w.heap.size (some ⟨E, 0, none⟩) 0 0 [] rfl rfl oE (Sl.onN (some ⟨g, 0, none⟩) 1 33 cq) (L.length - 1) (cq - 1) (L.drop 1) rfl HDL.out atT HLM.out hbs ?_)
          intro p1 c1 yA hO1 hB1 hk1 hb1
          have hcA := Sl.chg_app hB1 hk1
          have hfE : From (fun k => bk (some ⟨E, 0, none⟩) = some k) w.heap.size := fun k e => by cases e; exact geE
          have hq1 : ∀ k, bk (some ⟨g, 0, none⟩) = some k → bk p1 ≠ some k := fun k e e2 => by
            have h1 := hqE k e
            have h2 := (O_606.ge e).2
            rcases hb1.out with q | q
            · rw [e2] at q
              have q2 : k = E := Option.some.inj q
              omega
            · rw [e2] at q
              have q2 := Option.some.inj q
              omega
          try simp only [List.nil_append] at hO1 ⊢
          clear oE atT hbs hB1 hk1 hb1
          have C_607 : Row yA C 42 (rcs r p L.length cap) := C_606.chg hcA (fun e => (C_606.ne_type rNy605 (by decide)) (Option.some.inj e).symm)
          have X_607 : Row yA X 32 (u8s h) := X_606.chg hcA (fun e => (X_606.ne_type rNy605 (by decide)) (Option.some.inj e).symm)
          have R_607 : Row yA R 32 (u8s zh) := R_606.chg hcA (fun e => (R_606.ne_type rNy605 (by decide)) (Option.some.inj e).symm)
          have O_607 : Own kP yA w.heap.size (some ⟨g, 0, none⟩) cq L := O_606.chg hcA (fun k e e2 => by have h1 := hqE k e; have h2 : E = k := Option.some.inj e2; omega)
          have N_607 : Row yA N 57 (Sl.Kind.all kP [(h, b)]) := N_606.chg hcA (fun e => hNE (Option.some.inj e).symm)
          have bel_607 : Chg F w yA := bel_606.fresh hcA hfE
          clear C_606 X_606 R_606 O_606 N_606 bel_606 hcA
          refine ⟨⟨X_607, trivial⟩, ?_⟩
          simp only [Act.put, List.setIfInBounds_toArray, List.set_cons_zero, List.set_cons_succ]
          have atN : At kP yA (some ⟨N, 0, none⟩) [(h, b)] := Sl.At.row (c := []) fP (Sl.allOk_cons (show PrOk (h, b) from KH.out) Sl.allOk_nil) N_607 (List.append_nil _).symm
          have hbs := bel_607.size
          refine h_one (i := 9) (by kernel_rfl) (Sl.o_appendQ rfl 65 rfl (by kernel_rfl) fP _ _ rfl w.heap.size p1 _ c1 (L.drop 1) rfl rfl hO1 (some ⟨N, 0, none⟩) 1 1 [(h, b)] rfl rfl atN HLN.out hbs ?_)
          intro p2 c2 yB hO2 hB2 hk2 hb2
          have hcB := Sl.chg_app hB2 hk2
          have hfP : From (fun k => bk p1 = some k) w.heap.size := fun k e => (hO1.ge e).1
          rw [HPV.out] at hO2
          have hLP : Hid ((L.drop 1 ++ [(h, b)]).length = (putV r L h b).length) := Lib.hid (by rw [HPV.out])
          clear atN hbs hB2 hk2 hb2
          clear N_607
          have C_608 : Row yB C 42 (rcs r p L.length cap) := C_607.chg hcB (hO1.ne C_607 (by decide))
          have X_608 : Row yB X 32 (u8s h) := X_607.chg hcB (hO1.ne X_607 (by decide))
          have R_608 : Row yB R 32 (u8s zh) := R_607.chg hcB (hO1.ne R_607 (by decide))
          have O_608 : Own kP yB w.heap.size (some ⟨g, 0, none⟩) cq L := O_607.chg hcB hq1
          have bel_608 : Chg F w yB := bel_607.fresh hcB hfP
          clear C_607 X_607 R_607 O_607 bel_607 hcB
          refine ⟨⟨X_608, trivial⟩, ?_⟩
          simp only [Act.put, List.setIfInBounds_toArray, List.set_cons_zero, List.set_cons_succ]
          refine h_take 10 (.pointer (some ⟨C, 0, none⟩)) rfl 66 rfl (by kernel_rfl) (by kernel_rfl) (by kernel_rfl) (by kernel_rfl) (fun _ _ _ h => h) (fun w' _ => by kernel_rfl) ⟨X_608, trivial⟩ ?_
          simp only [Act.put, List.setIfInBounds_toArray, List.set_cons_zero, List.set_cons_succ]
          refine h_take 11 (.pointer (some ⟨C, 0, none⟩)) rfl 67 rfl (by kernel_rfl) (by kernel_rfl) (by kernel_rfl) (by kernel_rfl) (fun _ _ _ h => h) (fun w' _ => by kernel_rfl) ⟨X_608, trivial⟩ ?_
          simp only [Act.put, List.setIfInBounds_toArray, List.set_cons_zero, List.set_cons_succ]
          refine h_one (i := 12) (by kernel_rfl) (o_skip rfl rfl (by kernel_rfl) (run_op_storeV _ _ _ rfl C 0 rfl (.slice p2 (L.drop 1 ++ [(h, b)]).length c2) rfl (one_sl _ _ _) sz_slP _ _ C_608 (lt_rcs _ _ _ _)) ?_)
          have hyC := row_setRow C_608 ((rcs r p L.length cap).set 0 (.slice p2 (L.drop 1 ++ [(h, b)]).length c2))
          have oyC := Only.setRow C yB ((rcs r p L.length cap).set 0 (.slice p2 (L.drop 1 ++ [(h, b)]).length c2)).toArray
          generalize yB.setRow C ((rcs r p L.length cap).set 0 (.slice p2 (L.drop 1 ++ [(h, b)]).length c2)).toArray = yC at hyC oyC ⊢
          have nXC := X_608.ne_type C_608 (by decide); have nRC := R_608.ne_type C_608 (by decide)
          have hC3 : Row yC C 42 (rcs r p2 (putV r L h b).length c2) := by rw [← hLP.out]; exact hyC
          clear hyC
          have C_609 : Row yC C 42 (rcs r p2 (putV r L h b).length c2) := hC3
          have X_609 : Row yC X 32 (u8s h) := X_608.only oyC nXC
          have R_609 : Row yC R 32 (u8s zh) := R_608.only oyC nRC
          have O_609 : Own kP yC w.heap.size (some ⟨g, 0, none⟩) cq L := O_608.only oyC (O_608.ne C_608 (by decide))
          have P_609 : Own kP yC w.heap.size p2 c2 (putV r L h b) := hO2.only oyC (hO2.ne C_608 (by decide))
          have bel_609 : Chg F w yC := bel_608.only oyC (FB.out)
          clear C_608 X_608 R_608 O_608 hO2 bel_608 oyC
          refine ⟨⟨X_609, trivial⟩, ?_⟩
          refine wpAnyH_done (by kernel_rfl) ?_ _
          have hr0 := HAT0.out _ O_609
          go_wp2_with (first
            | ((with_reducible refine at_slot 69 ?_); (refine arm_want (.pointer (some ⟨g, 0 + 0 * 33, none⟩)) 69 rfl (by kernel_rfl) (Sl.run_op_index fP _ _ rfl g 0 _ _ rfl .i64 _ rfl 0 rfl (hL1) _) ?_); try simp only [Act.put, List.setIfInBounds_toArray, List.set_cons_zero, List.set_cons_succ])
            | ((with_reducible refine at_slot 71 ?_); (refine arm_load (o := ⟨some 71, _, _, _, _, _⟩) rfl _ _ rfl g (0 + 0 * 33) rfl (u8s x0.1) (hr0) (szH HQ0.out) ?_); try simp only [Act.put, List.setIfInBounds_toArray, List.set_cons_zero, List.set_cons_succ])
            | ((with_reducible refine arm_store (o := ⟨none, _, _, _, _, _⟩) rfl _ _ _ rfl R 0 rfl (u8s x0.1) rfl _ _ R_609 (fitH HQ0.out) (u8s_one _) (szH HQ0.out) ?_); intro yR hR oR sR; try simp only [Act.put, List.setIfInBounds_toArray, List.set_cons_zero, List.set_cons_succ]))
          refine bodyPost_ret (result_row2 (p := 6) (u := 7) (ty := 32) (t := 32) (by kernel_rfl) _ _ R (u8s x0.1) (.bool true) rfl rfl (hR.congr (allH HQ0.out)) (szH HQ0.out)) rfl ?_
          have hsz3 := bel_609.size; have hsz4 := oR.size
          exact ⟨by rw [HG.out, HF.out], rput_done (C_609.only oR (Ne.symm nRC)) (P_609.only oR (P_609.ne R_609 (by decide))) HPO.out HLI.out (by omega) FB.out, bel_609.new oR geR⟩
end Go.Proofs.Ytbpghogdjpobnaa.Vd
