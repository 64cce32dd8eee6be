/-
  The walk of layer 18's statement VerdictLast, out of the contracts: it returns true, and changes nothing that was there. Over this seat's translation.
-/
import Derived.Test.YtbpghogdjpobnaaVerAwake
import Derived.LoopTactic
namespace Go.Proofs.Ytbpghogdjpobnaa.Vd
open Go.ChangeShapes Go.WideShapes Go.ChangeAt Go.RowKit Go.Proofs.Ytbpghogdjpobnaa.Mem Go.Proofs.Ytbpghogdjpobnaa.Bt Go.Proofs.Ytbpghogdjpobnaa.Km
open Go.Proofs.Ytbpghogdjpobnaa.Ep (H32 zh zh_ok Has h_len szH zH fitH allH one_app)
open Go.Proofs.Ytbpghogdjpobnaa.Sl (Kind Own At bk)
set_option linter.unusedVariables false
set_option linter.unusedSimpArgs false

structure VlRel (w : World) (B r : Nat) (l : List (List Nat)) (i cv gv : Value) (wr : World) : Prop where
  ex : ∃ k : Nat, k ≤ l.length ∧ i = .int .i64 (k : Int)
  st : ∃ L F came gone p q cp cq, CAt wr F B r L ∧ From F w.heap.size ∧ LastV r came gone L ∧ cv = .slice p came.length cp ∧ gv = .slice q gone.length cq ∧ Own kH wr w.heap.size p cp came ∧ Own kH wr w.heap.size q cq gone ∧
    (∀ k, bk p = some k → ¬ F k) ∧ (∀ k, bk q = some k → ¬ F k) ∧ (∀ k, bk p = some k → bk q ≠ some k) ∧ (∀ k : Nat, i = .int .i64 (k : Int) → came.length ≤ k ∧ gone.length ≤ k)
  bel : Below w.heap.size w wr
structure AgRel (w : World) (came : List (List Nat)) (h : List Nat) (j t : Value) (wr : World) : Prop where
  ex : ∃ k : Nat, k ≤ came.length ∧ j = .int .i64 (k : Int) ∧ t = .bool (decide (h ∈ came.take k))
  bel : Below w.heap.size w wr
theorem same_eq (l m : List (List Nat)) (p q : Option Addr) (cp cq n1 n2 : Nat) (w : World) (h1 : n1 = l.length) (h2 : n2 = m.length) (hp : At kH w p l) (hq : At kH w q m) (hl : l.length ≤ 1000000) (e : l = m) :
    Calls Try.prog 14 #[.slice p n1 cp, .slice q n2 cq] w fun e w' => e = .returned (.bool true) ∧ Below w.heap.size w w' := by
  subst h1 h2
  exact (same_any l m p q cp cq w hp hq hl).mono fun e' w' h => ⟨by rw [h.1, decide_eq_true e], h.2⟩
theorem run_op_subN {P : Program} {o : Oper} {a : Act} (t t' : TypeId) (x y : Operand) (ho : o.op = .binOp .sub t x y t') (m n r : Int) (hx : a.eval x = .int .i64 m) (hy : a.eval y = .int .i64 n) (hr : IntKind.i64.wrap (m - n) = r) (w : World) :
    (execOp a.eval o).run P w = .ok (.value (.int .i64 r)) w := by
  subst hr
  unfold execOp
  simp [ho, hx, hy, eqGuard, binOp, Op.intArith]
theorem run_op_arr' {P : Program} {o : Oper} {a : Act} (t : TypeId) (x ix : Operand) (ho : o.op = .indexAddr t x ix) (n : Nat) (e : TypeId) (s : Nat) (hu : P.underlying t = some (.array n e)) (hse : (P.info? e).map (·.size) = some s)
    (g off : Nat) (hx : a.eval x = .pointer (some ⟨g, off, none⟩)) (kk : IntKind) (i : Int) (hi : a.eval ix = .int kk i) (k : Nat) (hik : i = (k : Int)) (hk : k < n) (q : Nat) (hqq : off + k * s = q) (w : World) : (execOp a.eval o).run P w = .ok (.value (.pointer (some ⟨g, q, none⟩))) w := by
  subst hik hqq
  cases hq : P.info? e with
  | none => simp [hq] at hse
  | some ie =>
    have hs : ie.size = s := by simpa [hq] using hse
    have h3 : (⟨g, off, none⟩ : Addr).add (k * s) = ⟨g, off + k * s, none⟩ := Addr.add_mid g off (k * s)
    unfold execOp
    simp [ho, hx, hi, Instr.indexAt, Instr.sureAddr, asIntOf, run_underlying hu, sizeOf, typeInfo, hq, hs, hk, h3]
theorem arm_max' {P : Program} {ops : Array Oper} {rest : List Oper} {o : Oper} {a : Act} {w : World} {Q : Exit → Act → World → Prop} (hgd : o.guard = none) (x y : Operand) (ats : Array TypeId) (ho : o.op = .call { callee := .builtin .max, args := #[x, y], argTypes := ats }) (k : IntKind) (m n : Int) (hx : a.eval x = .int k m) (hy : a.eval y = .int k n)
    (r : Nat) (hr : (if m < n then n else m) = (r : Int)) (h : wpList P ops Q rest (a.put o.dst (.int k (r : Int))) w) : wpList P ops Q (o :: rest) a w := by
  obtain ⟨dst, op, ty, pos, after, guard⟩ := o
  simp only at hgd ho
  subst hgd ho
  refine wpList_plain rfl fun K hK => ?_
  unfold Oper.wp
  have he : (execOp a.eval { dst := dst, op := Op.call { callee := .builtin .max, args := #[x, y], argTypes := ats }, type := ty, pos := pos, after := after, guard := none }).run P w = .ok (.value (.int k (r : Int))) w := by
    rw [BigFrame.execOp_builtin, BigFrame.builtin_max]
    simp only [List.map_toArray, List.map_cons, List.map_nil, hx, hy, Sem.run_bind, Builtin.max_, List.foldlM_cons, List.foldlM_nil, Builtin.max2, hr, Result.andThen_ok, Sem.run_pure]
  rw [he]
  exact hK _ _ h
theorem take_in {came : List (List Nat)} {h y : List Nat} {k : Nat} (hy : came[k]? = some y) : decide (h ∈ came.take (k + 1)) = (decide (h ∈ came.take k) || decide (y = h)) := by
  rw [List.take_add_one, hy]
  by_cases h1 : h ∈ came.take k
  · rw [decide_eq_true h1, Bool.true_or]
    exact decide_eq_true (List.mem_append.2 (.inl h1))
  · rw [decide_eq_false h1, Bool.false_or]
    by_cases h2 : y = h
    · rw [decide_eq_true h2]; exact decide_eq_true (List.mem_append.2 (.inr (by simp [h2])))
    · rw [decide_eq_false h2]
      exact decide_eq_false (fun q => by
        rcases List.mem_append.1 q with q | q
        · exact h1 q
        · simp only [Option.toList_some, List.mem_singleton] at q; exact h2 q.symm)
set_option maxHeartbeats 4000000 in
set_option maxRecDepth 100000 in
theorem verdictLast_any (room : Int) (l : List (List Nat)) (P : Option Addr) (pc : Nat) (w : World) (hs : At kH w P l) (hrm : -9223372036854775808 ≤ room ∧ room ≤ 9223372036854775807) :
    Calls Try.prog 5 #[.int .i64 room, .slice P l.length pc] w fun e w' => e = .returned (.bool true) ∧ Below w.heap.size w w' := by
  have HS := Lib.hid hs
  have CA := Lib.hid (fun w0 => awake_any w0)
  have CN := Lib.hid (fun w0 => new_any room w0)
  clear hs hrm
  go_enter Try.func5, Try.ntmps5
  have bel0 : Chg (fun _ => False) w w := Chg.refl _ _
  go_wp2_with fail
  refine (CA.out _).mono ?_
  rintro e y1 ⟨rfl, hB⟩
  have bel_2 : Chg (fun _ => False) w y1 := bel0.old hB
  clear bel0 hB
  go_wp2_with fail
  refine (CN.out _).mono ?_
  rintro e y0 ⟨hN, hB⟩
  have hsz0 := bel_2.size
  have bel_3 : Chg (fun _ => False) w y0 := bel_2.old hB
  clear bel_2 hB
  rcases hN with ⟨hr1, hr2, B, F0, rfl, hV, fr0⟩ | ⟨hN, rfl⟩
  · skip
    replace fr0 : From F0 w.heap.size := fun k hk => Nat.le_trans hsz0 (fr0 k hk)
    clear hsz0
    obtain ⟨r, rfl⟩ : ∃ r : Nat, room = (r : Int) := ⟨room.toNat, by omega⟩
    rw [Int.toNat_natCast] at hV
    have HR100 : Hid (r ≤ 100) := Lib.hid (by omega)
    have HR1 : Hid (1 ≤ r) := Lib.hid (by omega)
    clear hr1 hr2
    by_cases hbig : 300 < l.length
    · have hbd : decide (300 < (l.length : Int)) = true := decide_eq_true (by omega)
      go_wp2_with (first
        | ((with_reducible refine at_slot 25 ?_); (refine arm_want (.bool false) 25 rfl (by kernel_rfl) (run_op_eqlP' _ _ _ (by kernel_rfl) _ _ rfl (some _) rfl rfl false rfl _) ?_); try simp only [Act.put, List.setIfInBounds_toArray, List.set_cons_zero, List.set_cons_succ])
        | ((with_reducible refine at_slot 29 ?_); (refine arm_want (.bool true) 29 rfl (by kernel_rfl) (cmp_gtr _ _ _ _ rfl .i64 ((l.length : Int)) (300) rfl rfl true (hbd) _) ?_); try simp only [Act.put, List.setIfInBounds_toArray, List.set_cons_zero, List.set_cons_succ]))
      go_ret
      exact ⟨rfl, bel_3.below (fun k hk => hk.elim) (Nat.le_refl _)⟩
    · have hbd : decide (300 < (l.length : Int)) = false := decide_eq_false (by omega)
      have HLL : Hid (l.length ≤ 300) := Lib.hid (by omega)
      clear hbig
      go_wp2_with (first
        | ((with_reducible refine at_slot 25 ?_); (refine arm_want (.bool false) 25 rfl (by kernel_rfl) (run_op_eqlP' _ _ _ (by kernel_rfl) _ _ rfl (some _) rfl rfl false rfl _) ?_); try simp only [Act.put, List.setIfInBounds_toArray, List.set_cons_zero, List.set_cons_succ])
        | ((with_reducible refine at_slot 29 ?_); (refine arm_want (.bool false) 29 rfl (by kernel_rfl) (cmp_gtr _ _ _ _ rfl .i64 ((l.length : Int)) (300) rfl rfl false (hbd) _) ?_); try simp only [Act.put, List.setIfInBounds_toArray, List.set_cons_zero, List.set_cons_succ]))
      try simp only [Act.put]
      have h0 : VlRel w B r l (.int .i64 0) (.slice none 0 0) (.slice none 0 0) y0 := ⟨⟨0, by omega, rfl⟩, ⟨[], F0, [], [], none, none, 0, 0, hV, fr0, last_nil r, rfl, rfl, Sl.Own.nil _ _, Sl.Own.nil _ _, fun k e => (by cases e), fun k e => (by cases e), fun k e => (by cases e), fun k _ => ⟨Nat.zero_le _, Nat.zero_le _⟩⟩, bel_3.below (fun k hk => hk.elim) (Nat.le_refl _)⟩
      clear hV bel_3 fr0 CN CA
      go_loopw [33, 7, 8] (fun i cv gv wr => VlRel w B r l i cv gv wr) (fun i _ _ _ => l.length - (intOf i).toNat)
      case atStart => exact h0
      case round =>
        clear h0
        obtain ⟨⟨k, hk, rfl⟩, ⟨L, F, came, gone, p, q, cp, cq, hV, fr, hla, rfl, rfl, hP, hQ, nP, nQ, nPQ, hlk⟩, bel⟩ := hrel
        obtain ⟨hck, hgk⟩ := hlk k rfl
        clear hlk
        have bel0 : Chg (fun _ => False) w wr := Chg.of_below _ bel
        by_cases hlt : k < l.length
        · skip
          have hk300 : k < 300 := by have := HLL.out; omega
          obtain ⟨h, g, o, hx, kh, hPa, hgl, hrx⟩ := (HS.out.below bel).get hlt
          subst hPa
          have ik : (k : Int) < (l.length : Int) := by omega
          have KH : Hid (H32 h) := Lib.hid kh
          have hrx2 : wr.rangeAt g (o + k * 32) (u8s h) := hrx
          have hlV := Lib.hid hV.lies
          have HLA := Lib.hid hla
          have hpl : ∀ j, bk p = some j → j < wr.heap.size := fun j e => (hP.ge e).2
          have hql : ∀ j, bk q = some j → j < wr.heap.size := fun j e => (hQ.ge e).2
          clear hx kh hrx bel hla
          go_wp2_with (first
            | ((with_reducible refine at_slot 35 ?_); (refine arm_want (.pointer (some ⟨g, o + k * 32, none⟩)) 35 rfl (by kernel_rfl) (Sl.run_op_index fH _ _ rfl g o _ _ rfl .i64 _ rfl k rfl hlt _) ?_); try simp only [Act.put, List.setIfInBounds_toArray, List.set_cons_zero, List.set_cons_succ])
            | ((with_reducible refine at_slot 36 ?_); (refine arm_load (o := ⟨some 36, _, _, _, _, _⟩) rfl _ _ rfl g (o + k * 32) rfl (u8s h) (hrx2) (szH KH.out) ?_); try simp only [Act.put, List.setIfInBounds_toArray, List.set_cons_zero, List.set_cons_succ])
            | ((with_reducible refine at_slot 10 ?_); (refine arm_alloc (o := ⟨some 10, _, _, _, _, _⟩) rfl _ rfl (u8s zh) zH ?_); intro X v101a Xe hXa nX; try simp only [Act.put, List.setIfInBounds_toArray, List.set_cons_zero, List.set_cons_succ])
            | ((with_reducible refine arm_store (o := ⟨none, _, _, _, _, _⟩) rfl _ _ _ rfl X 0 rfl (u8s h) rfl _ _ hXa (fitH KH.out) (u8s_one _) (szH KH.out) ?_); intro v101 hXb oX sX; try simp only [Act.put, List.setIfInBounds_toArray, List.set_cons_zero, List.set_cons_succ]; refine fpause ?_; try simp only [Act.put, List.setIfInBounds_toArray, List.set_cons_zero, List.set_cons_succ]))
          have lX : wr.heap.size ≤ X := by have := Xe.out; omega
          have bX : Below wr.heap.size wr v101 := below_only nX.below oX lX nX.below.size
          have rrX : Row v101 X 32 (u8s h) := hXb.congr (allH KH.out)
          have geX : w.heap.size ≤ X := Nat.le_trans bel0.size lX
          have lXx := lX
          clear hXa hXb nX oX sX Xe lX
          have V_102 : CAt v101 F B r (L) := hV.old bX
          have P_102 : Own kH v101 w.heap.size p cp came := hP.below bX
          have Q_102 : Own kH v101 w.heap.size q cq gone := hQ.below bX
          have bel_102 : Chg (fun _ => False) w v101 := bel0.old bX
          clear hV hP hQ bel0 bX
          refine fgo ?_
          have nX : ¬ F X := fun q => by have := hlV.out X q; omega
          have nPX : bk p ≠ some X := fun e => by have := hpl X e; omega
          have nQX : bk q ≠ some X := fun e => by have := hql X e; omega
          clear hrx2 hlV hpl hql
          go_wp2_with fail
          try simp only [Act.put]
          obtain ⟨W0, hW0⟩ : ∃ W0, W0 = v101 := ⟨_, rfl⟩
          have h1 : AgRel v101 came h (.int .i64 0) (.bool false) v101 := ⟨⟨0, Nat.zero_le _, rfl, rfl⟩, Below.refl _ _⟩
          have HX0 := Lib.hid rrX; have HP0 := Lib.hid P_102; have HV0 := Lib.hid V_102; have HQ0 := Lib.hid Q_102; have HB0 := Lib.hid bel_102
          have HC3 : Hid (came.length ≤ 300) := Lib.hid (by omega)
          clear rrX P_102 V_102 Q_102 bel_102 hW0 W0
          generalize v101 = W0 at h1 HX0 HP0 HV0 HQ0 HB0 ⊢
          go_loopw [39, 11] (fun j t wr => AgRel W0 came h j t wr) (fun j _ _ => came.length - (intOf j).toNat)
          case atStart => exact h1
          case round =>
            clear h1
            obtain ⟨⟨j, hj, rfl, rfl⟩, bel⟩ := hrel
            by_cases hjl : j < came.length
            · obtain ⟨y, g2, o2, hy, ky, e2, hg2, hry⟩ := ((HP0.out.below bel).at fH).get hjl
              subst e2
              have KY : Hid (H32 y) := Lib.hid ky
              have hC3 := HC3.out
              have ij : (j : Int) < (came.length : Int) := by omega
              have j300 : j < 300 := by omega
              have hry2 : wr.rangeAt g2 (o2 + j * 32) (u8s y) := hry
              have HTI := Lib.hid (take_in (h := h) hy)
              have BEL := Lib.hid bel
              have hXr := HX0.out.old bel
              have bel0 : Chg (fun _ => False) wr wr := Chg.refl _ _
              clear hy ky hry bel hC3
              by_cases ht : h ∈ came.take j
              · skip
                have hd1 : decide (h ∈ came.take j) = true := decide_eq_true ht
                rw [hd1]
                rw [hd1] at HTI
                clear ht hd1
                go_wp2_with (first
                  | ((with_reducible refine at_slot 41 ?_); (refine arm_want (.pointer (some ⟨g2, o2 + j * 32, none⟩)) 41 rfl (by kernel_rfl) (Sl.run_op_index fH _ _ rfl g2 o2 _ _ rfl .i64 _ rfl j rfl hjl _) ?_); try simp only [Act.put, List.setIfInBounds_toArray, List.set_cons_zero, List.set_cons_succ])
                  | ((with_reducible refine at_slot 42 ?_); (refine arm_load (o := ⟨some 42, _, _, _, _, _⟩) rfl _ _ rfl g2 (o2 + j * 32) rfl (u8s y) (hry2) (szH KY.out) ?_); try simp only [Act.put, List.setIfInBounds_toArray, List.set_cons_zero, List.set_cons_succ])
                  | ((with_reducible refine at_slot 13 ?_); (refine arm_alloc (o := ⟨some 13, _, _, _, _, _⟩) rfl _ rfl (u8s zh) zH ?_); intro Y v401a Ye hYa nY; try simp only [Act.put, List.setIfInBounds_toArray, List.set_cons_zero, List.set_cons_succ])
                  | ((with_reducible refine arm_store (o := ⟨none, _, _, _, _, _⟩) rfl _ _ _ rfl Y 0 rfl (u8s y) rfl _ _ hYa (fitH KY.out) (u8s_one _) (szH KY.out) ?_); intro v401 hYb oY sY; try simp only [Act.put, List.setIfInBounds_toArray, List.set_cons_zero, List.set_cons_succ]; refine fpause ?_; try simp only [Act.put, List.setIfInBounds_toArray, List.set_cons_zero, List.set_cons_succ]))
                have lY : wr.heap.size ≤ Y := by have := Ye.out; omega
                have bY : Below wr.heap.size wr v401 := below_only nY.below oY lY nY.below.size
                have rrY : Row v401 Y 32 (u8s y) := hYb.congr (allH KY.out)
                have geY : wr.heap.size ≤ Y := Nat.le_trans bel0.size lY
                have lYx := lY
                clear hYa hYb nY oY sY Ye lY
                have X_402 : Row v401 X 32 (u8s h) := hXr.old bY
                have bel_402 : Chg (fun _ => False) wr v401 := bel0.old bY
                clear hXr bel0 bY
                refine fgo ?_
                go_wp2_with fail
                go_roundw
                case rel => exact ⟨⟨j + 1, by omega, by go_num, by rw [HTI.out]; rfl⟩, below_step BEL.out BEL.out.size (bel_402.below (fun k hk => hk.elim) (Nat.le_refl _))⟩
                case measure => simp [intOf]; omega
              · skip
                have hd1 : decide (h ∈ came.take j) = false := decide_eq_false ht
                rw [hd1]
                rw [hd1] at HTI
                clear ht hd1
                go_wp2_with (first
                  | ((with_reducible refine at_slot 41 ?_); (refine arm_want (.pointer (some ⟨g2, o2 + j * 32, none⟩)) 41 rfl (by kernel_rfl) (Sl.run_op_index fH _ _ rfl g2 o2 _ _ rfl .i64 _ rfl j rfl hjl _) ?_); try simp only [Act.put, List.setIfInBounds_toArray, List.set_cons_zero, List.set_cons_succ])
                  | ((with_reducible refine at_slot 42 ?_); (refine arm_load (o := ⟨some 42, _, _, _, _, _⟩) rfl _ _ rfl g2 (o2 + j * 32) rfl (u8s y) (hry2) (szH KY.out) ?_); try simp only [Act.put, List.setIfInBounds_toArray, List.set_cons_zero, List.set_cons_succ])
                  | ((with_reducible refine at_slot 13 ?_); (refine arm_alloc (o := ⟨some 13, _, _, _, _, _⟩) rfl _ rfl (u8s zh) zH ?_); intro Y v401a Ye hYa nY; try simp only [Act.put, List.setIfInBounds_toArray, List.set_cons_zero, List.set_cons_succ])
                  | ((with_reducible refine arm_store (o := ⟨none, _, _, _, _, _⟩) rfl _ _ _ rfl Y 0 rfl (u8s y) rfl _ _ hYa (fitH KY.out) (u8s_one _) (szH KY.out) ?_); intro v401 hYb oY sY; try simp only [Act.put, List.setIfInBounds_toArray, List.set_cons_zero, List.set_cons_succ]; refine fpause ?_; try simp only [Act.put, List.setIfInBounds_toArray, List.set_cons_zero, List.set_cons_succ]))
                have lY : wr.heap.size ≤ Y := by have := Ye.out; omega
                have bY : Below wr.heap.size wr v401 := below_only nY.below oY lY nY.below.size
                have rrY : Row v401 Y 32 (u8s y) := hYb.congr (allH KY.out)
                have geY : wr.heap.size ≤ Y := Nat.le_trans bel0.size lY
                have lYx := lY
                clear hYa hYb nY oY sY Ye lY
                have X_402 : Row v401 X 32 (u8s h) := hXr.old bY
                have bel_402 : Chg (fun _ => False) wr v401 := bel0.old bY
                clear hXr bel0 bY
                refine fgo ?_
                go_wp2_with (first
                  | ((with_reducible refine at_slot 45 ?_); (refine arm_want (.agg (u8s y).toArray) 45 rfl (by kernel_rfl) (run_op_load _ _ rfl Y 0 rfl (u8s y) ((Has.refl _).range rrY) (szH KY.out)) ?_); try simp only [Act.put, List.setIfInBounds_toArray, List.set_cons_zero, List.set_cons_succ])
                  | ((with_reducible refine at_slot 46 ?_); (refine arm_want (.agg (u8s h).toArray) 46 rfl (by kernel_rfl) (run_op_load _ _ rfl X 0 rfl (u8s h) ((Has.refl _).range X_402) (szH KH.out)) ?_); try simp only [Act.put, List.setIfInBounds_toArray, List.set_cons_zero, List.set_cons_succ])
                  | ((with_reducible refine at_slot 47 ?_); (refine arm_want (.bool (decide (y = h))) 47 rfl (by kernel_rfl) (run_op_eqlV _ _ _ rfl y h KY.out KH.out rfl rfl (decide (y = h)) rfl _) ?_); try simp only [Act.put, List.setIfInBounds_toArray, List.set_cons_zero, List.set_cons_succ]))
                go_roundw
                case rel => exact ⟨⟨j + 1, by omega, by go_num, by rw [HTI.out]; rfl⟩, below_step BEL.out BEL.out.size (bel_402.below (fun k hk => hk.elim) (Nat.le_refl _))⟩
                case measure => simp [intOf]; omega
            · obtain rfl : j = came.length := by omega
              rw [List.take_length]
              have bel1 : Chg (fun _ => False) w wr := HB0.out.old bel
              have hXr := HX0.out.old bel; have hPr := HP0.out.below bel; have hVr := HV0.out.old bel; have hQr := HQ0.out.below bel
              clear bel hjl hj
              by_cases hin : h ∈ came
              · rw [decide_eq_true hin]
                go_wp2_with fail
                go_roundw
                case rel => exact ⟨⟨k + 1, by omega, by go_num⟩, ⟨L, F, came, gone, p, q, cp, cq, hVr, fr, HLA.out, rfl, rfl, hPr, hQr, nP, nQ, nPQ, fun j ej => by have := (Value.int.inj ej).2; omega⟩, bel1.below (fun k hk => hk.elim) (Nat.le_refl _)⟩
                case measure => simp [intOf]; omega
              · rw [decide_eq_false hin]
                have HNI := Lib.hid hin
                have HGO := Lib.hid (gone_ok hVr.ok h)
                have HLN : Hid (came.length + [h].length ≤ 1000000) := Lib.hid (by rw [List.length_singleton]; omega)
                have hsz := bel1.size
                have XLT := hXr.lt
                clear hin
                go_wp2_with (first
                  | ((with_reducible refine at_slot 52 ?_); (refine arm_load (o := ⟨some 52, _, _, _, _, _⟩) rfl _ _ rfl X 0 rfl (u8s h) ((Has.refl _).range hXr) (szH KH.out) ?_); try simp only [Act.put, List.setIfInBounds_toArray, List.set_cons_zero, List.set_cons_succ])
                  | ((with_reducible refine at_slot 53 ?_); (refine Sl.arm_lit (o := ⟨some 53, _, _, _, _, _⟩) rfl fH [h] (Sl.allOk_cons KH.out Sl.allOk_nil) (by simp) _ _ rfl rfl (by simp only [List.map_toArray, List.map_cons, List.map_nil]; rfl) ?_); intro N vN Ne hvN nvN; try simp only [Act.put, List.setIfInBounds_toArray, List.set_cons_zero, List.set_cons_succ])
                  | ((with_reducible refine at_slot 54 ?_); (refine Sl.arm_appendQ (o := ⟨some 54, _, _, _, _, _⟩) rfl fH _ _ rfl w.heap.size p _ cp came rfl rfl (hPr.below nvN.below) (some ⟨N, 0, none⟩) 1 1 [h] rfl rfl (Sl.At.row (c := []) fH (Sl.allOk_cons KH.out Sl.allOk_nil) hvN (List.append_nil _).symm) HLN.out (Nat.le_trans hsz nvN.below.size) ?_); intro p' cp' yA hO2 hB2 hk2 hb2; try simp only [Act.put, List.setIfInBounds_toArray, List.set_cons_zero, List.set_cons_succ]; refine fpause ?_; try simp only [Act.put, List.setIfInBounds_toArray, List.set_cons_zero, List.set_cons_succ]))
                have hcA := Sl.chg_app hB2 hk2
                have nb1 := nvN.below
                have hFl : ∀ j, F j → j < vN.heap.size := fun j hj => Nat.lt_of_lt_of_le (hVr.lies j hj) nb1.size
                have hQl : ∀ j, bk q = some j → j < vN.heap.size := fun j hj => Nat.lt_of_lt_of_le (hQr.ge hj).2 nb1.size
                have hXl : X < vN.heap.size := Nat.lt_of_lt_of_le XLT nb1.size
                have nP2 : ∀ j, bk p' = some j → ¬ F j := fun j ej hj => by
                  have h1 := hFl j hj
                  rcases hb2.out with z | z
                  · exact nP j (z ▸ ej) hj
                  · rw [ej] at z; cases z; omega
                have nPQ2 : ∀ j, bk p' = some j → bk q ≠ some j := fun j ej hj => by
                  have h1 := hQl j hj
                  rcases hb2.out with z | z
                  · exact nPQ j (z ▸ ej) hj
                  · rw [ej] at z; cases z; omega
                have nPX2 : bk p' ≠ some X := fun ej => by
                  rcases hb2.out with z | z
                  · exact nPX (z ▸ ej)
                  · rw [ej] at z; cases z; omega
                have hfP : From (fun k => bk p = some k) w.heap.size := fun k e => (hPr.ge e).1
                clear hB2 hk2 hb2 Ne hvN nvN hFl hQl hXl
                have X_401 : Row vN X 32 (u8s h) := hXr.old nb1
                have P_401 : Own kH vN w.heap.size p cp came := hPr.below nb1
                have V_401 : CAt vN F B r (L) := hVr.old nb1
                have Q_401 : Own kH vN w.heap.size q cq gone := hQr.below nb1
                have bel_401 : Chg (fun _ => False) w vN := bel1.old nb1
                clear hXr hPr hVr hQr bel1 nb1
                have X_402 : Row yA X 32 (u8s h) := X_401.chg hcA nPX
                have P_402 : Own kH yA w.heap.size p' cp' (came ++ [h]) := hO2
                have V_402 : CAt yA F B r (L) := V_401.chg hcA nP
                have Q_402 : Own kH yA w.heap.size q cq gone := Q_401.chg hcA (fun j e1 e2 => nPQ j e2 e1)
                have bel_402 : Chg (fun _ => False) w yA := bel_401.fresh hcA hfP
                clear X_401 P_401 V_401 Q_401 bel_401 hcA
                clear nP nPX nPQ
                refine fgo ?_
                obtain ⟨h0, hh0⟩ : ∃ v, (u8s h)[0]? = some (.int .u8 (v : Int)) := by
                  have hl := h_len KH.out
                  unfold u8s at hl ⊢
                  rw [List.length_map] at hl
                  exact ⟨((h[0]'(by omega) : Nat) : Int), by rw [List.getElem?_map, List.getElem?_eq_getElem (by omega)]; rfl⟩
                have hcx := X_402.cell (i := 0) hh0
                obtain ⟨b3, hb3⟩ : ∃ b3, decide ((3 : Int) < h0) = b3 := ⟨_, rfl⟩
                have HLS := Lib.hid (last_step HR1.out HLA.out HNI.out b3)
                have CPT := Lib.hid (fun w0 h1 => put_to (b := b3) (w := w0) (F := F) (B := B) (r := r) (L := L) h1 KH.out HR100.out rfl rfl rfl)
                clear hh0
                go_wp2_with (first
                  | ((with_reducible refine at_slot 57 ?_); (refine arm_load (o := ⟨some 57, _, _, _, _, _⟩) rfl _ _ rfl X 0 rfl (u8s h) ((Has.refl _).range X_402) (szH KH.out) ?_); try simp only [Act.put, List.setIfInBounds_toArray, List.set_cons_zero, List.set_cons_succ])
                  | ((with_reducible refine at_slot 58 ?_); (refine arm_want (.pointer (some ⟨X, 0, none⟩)) 58 rfl (by kernel_rfl) (run_op_arr' _ _ _ rfl 32 _ 1 (by kernel_rfl) (by kernel_rfl) X 0 rfl .i64 _ rfl 0 rfl (by omega) 0 rfl _) ?_); try simp only [Act.put, List.setIfInBounds_toArray, List.set_cons_zero, List.set_cons_succ])
                  | ((with_reducible refine at_slot 60 ?_); (refine arm_want (.bool b3) 60 rfl (by kernel_rfl) (cmp_gtr _ _ _ _ rfl .u8 h0 3 rfl rfl b3 hb3 _) ?_); try simp only [Act.put, List.setIfInBounds_toArray, List.set_cons_zero, List.set_cons_succ]))
                clear hcx hb3
                have hPl := Lib.hid (fun j hj => (P_402.ge (g := j) hj).2)
                have hQl := Lib.hid (fun j hj => (Q_402.ge (g := j) hj).2)
                refine (CPT.out _ V_402).mono ?_
                rintro e yP403 ⟨rfl, ⟨F2, hV2, hG2⟩, hc⟩
                have fr2 := hG2.from fr bel_402.size
                have nP3 : ∀ j, bk p' = some j → ¬ F2 j := fun j ej hj => (hG2 j hj).elim (nP2 j ej) (fun z => by have := hPl.out j ej; omega)
                have nQ3 : ∀ j, bk q = some j → ¬ F2 j := fun j ej hj => (hG2 j hj).elim (nQ j ej) (fun z => by have := hQl.out j ej; omega)
                have X_404 : Row yP403 X 32 (u8s h) := X_402.chg hc nX
                have P_404 : Own kH yP403 w.heap.size p' cp' (came ++ [h]) := P_402.chg hc nP2
                have V_404 : CAt yP403 F2 B r (putV r L h b3) := hV2
                have Q_404 : Own kH yP403 w.heap.size q cq gone := Q_402.chg hc nQ
                have bel_404 : Chg (fun _ => False) w yP403 := bel_402.fresh hc fr
                clear X_402 P_402 V_402 Q_402 bel_402 hc
                clear hG2
                clear hPl hQl CPT nP2
                by_cases hfu : fullV r L h = true
                · rw [hfu]
                  rw [hfu, if_pos rfl] at HLS
                  have hlV := Lib.hid V_404.lies; have hPl := Lib.hid (fun j hj => (P_404.ge (g := j) hj).2); have hQl := Lib.hid (fun j hj => (Q_404.ge (g := j) hj).2)
                  clear hfu
                  go_wp2_with (first
                    | ((with_reducible refine at_slot 14 ?_); (refine arm_alloc (o := ⟨some 14, _, _, _, _, _⟩) rfl _ rfl (u8s zh) zH ?_); intro A v405a Ae hAa nA; try simp only [Act.put, List.setIfInBounds_toArray, List.set_cons_zero, List.set_cons_succ])
                    | ((with_reducible refine arm_store (o := ⟨none, _, _, _, _, _⟩) rfl _ _ _ rfl A 0 rfl (u8s (goneV r L h)) rfl _ _ hAa (fitH HGO.out) (u8s_one _) (szH HGO.out) ?_); intro v405 hAb oA sA; try simp only [Act.put, List.setIfInBounds_toArray, List.set_cons_zero, List.set_cons_succ]; refine fpause ?_; try simp only [Act.put, List.setIfInBounds_toArray, List.set_cons_zero, List.set_cons_succ]))
                  have lA : yP403.heap.size ≤ A := by have := Ae.out; omega
                  have bA : Below yP403.heap.size yP403 v405 := below_only nA.below oA lA nA.below.size
                  have rrA : Row v405 A 32 (u8s (goneV r L h)) := hAb.congr (allH HGO.out)
                  have geA : w.heap.size ≤ A := Nat.le_trans bel_404.size lA
                  have lAx := lA
                  clear hAa hAb nA oA sA Ae lA
                  have X_406 : Row v405 X 32 (u8s h) := X_404.old bA
                  have P_406 : Own kH v405 w.heap.size p' cp' (came ++ [h]) := P_404.below bA
                  have V_406 : CAt v405 F2 B r (putV r L h b3) := V_404.old bA
                  have Q_406 : Own kH v405 w.heap.size q cq gone := Q_404.below bA
                  have bel_406 : Chg (fun _ => False) w v405 := bel_404.old bA
                  clear X_404 P_404 V_404 Q_404 bel_404 bA
                  refine fgo ?_
                  have HLN2 : Hid (gone.length + [goneV r L h].length ≤ 1000000) := Lib.hid (by rw [List.length_singleton]; omega)
                  have hsz2 := bel_406.size
                  go_wp2_with (first
                    | ((with_reducible refine at_slot 66 ?_); (refine arm_load (o := ⟨some 66, _, _, _, _, _⟩) rfl _ _ rfl A 0 rfl (u8s (goneV r L h)) ((Has.refl _).range rrA) (szH HGO.out) ?_); try simp only [Act.put, List.setIfInBounds_toArray, List.set_cons_zero, List.set_cons_succ])
                    | ((with_reducible refine at_slot 67 ?_); (refine Sl.arm_lit (o := ⟨some 67, _, _, _, _, _⟩) rfl fH [goneV r L h] (Sl.allOk_cons HGO.out Sl.allOk_nil) (by simp) _ _ rfl rfl (by simp only [List.map_toArray, List.map_cons, List.map_nil]; rfl) ?_); intro M vM Me hvM nvM; try simp only [Act.put, List.setIfInBounds_toArray, List.set_cons_zero, List.set_cons_succ])
                    | ((with_reducible refine at_slot 68 ?_); (refine Sl.arm_appendQ (o := ⟨some 68, _, _, _, _, _⟩) rfl fH _ _ rfl w.heap.size q _ cq gone rfl rfl (Q_406.below nvM.below) (some ⟨M, 0, none⟩) 1 1 [goneV r L h] rfl rfl (Sl.At.row (c := []) fH (Sl.allOk_cons HGO.out Sl.allOk_nil) hvM (List.append_nil _).symm) HLN2.out (Nat.le_trans hsz2 nvM.below.size) ?_); intro q' cq' yB hO3 hB3 hk3 hb3; try simp only [Act.put, List.setIfInBounds_toArray, List.set_cons_zero, List.set_cons_succ]; refine fpause ?_; try simp only [Act.put, List.setIfInBounds_toArray, List.set_cons_zero, List.set_cons_succ]))
                  have hcB := Sl.chg_app hB3 hk3
                  have nb2 := nvM.below
                  have nQ4 : ∀ j, bk q' = some j → ¬ F2 j := fun j ej hj => by
                    have h1 := Nat.lt_of_lt_of_le (V_406.lies j hj) nb2.size
                    rcases hb3.out with z | z
                    · exact nQ3 j (z ▸ ej) hj
                    · rw [ej] at z; cases z; omega
                  have nPQ4 : ∀ j, bk p' = some j → bk q' ≠ some j := fun j ej hj => by
                    have h1 := Nat.lt_of_lt_of_le (P_406.ge ej).2 nb2.size
                    rcases hb3.out with z | z
                    · exact nPQ2 j ej (z ▸ hj)
                    · rw [hj] at z; cases z; omega
                  have hfQ : From (fun k => bk q = some k) w.heap.size := fun k e => (Q_406.ge e).1
                  clear hB3 hk3 hb3 Me hvM nvM
                  have X_407 : Row vM X 32 (u8s h) := X_406.old nb2
                  have P_407 : Own kH vM w.heap.size p' cp' (came ++ [h]) := P_406.below nb2
                  have V_407 : CAt vM F2 B r (putV r L h b3) := V_406.old nb2
                  have Q_407 : Own kH vM w.heap.size q cq gone := Q_406.below nb2
                  have A_407 : Row vM A 32 (u8s (goneV r L h)) := rrA.old nb2
                  have bel_407 : Chg (fun _ => False) w vM := bel_406.old nb2
                  clear X_406 P_406 V_406 Q_406 rrA bel_406 nb2
                  clear X_407
                  clear A_407
                  have P_408 : Own kH yB w.heap.size p' cp' (came ++ [h]) := P_407.chg hcB nPQ2
                  have V_408 : CAt yB F2 B r (putV r L h b3) := V_407.chg hcB nQ3
                  have Q_408 : Own kH yB w.heap.size q' cq' (gone ++ [goneV r L h]) := hO3
                  have bel_408 : Chg (fun _ => False) w yB := bel_407.fresh hcB hfQ
                  clear P_407 V_407 Q_407 bel_407 hcB
                  refine fgo ?_
                  go_wp2_with fail
                  go_roundw
                  case rel => exact ⟨⟨k + 1, by omega, by go_num⟩, ⟨putV r L h b3, F2, came ++ [h], gone ++ [goneV r L h], p', q', cp', cq', V_408, fr2, HLS.out, by rw [List.length_append]; rfl, by rw [List.length_append]; rfl, P_408, Q_408, nP3, nQ4, nPQ4, fun j ej => by have := (Value.int.inj ej).2; simp only [List.length_append, List.length_singleton]; omega⟩, bel_408.below (fun k hk => hk.elim) (Nat.le_refl _)⟩
                  case measure => simp [intOf]; omega
                · rw [Bool.eq_false_iff.2 hfu]
                  rw [if_neg hfu] at HLS
                  clear hfu
                  go_wp2_with (first
                    | ((with_reducible refine at_slot 14 ?_); (refine arm_alloc (o := ⟨some 14, _, _, _, _, _⟩) rfl _ rfl (u8s zh) zH ?_); intro A v405a Ae hAa nA; try simp only [Act.put, List.setIfInBounds_toArray, List.set_cons_zero, List.set_cons_succ])
                    | ((with_reducible refine arm_store (o := ⟨none, _, _, _, _, _⟩) rfl _ _ _ rfl A 0 rfl (u8s (goneV r L h)) rfl _ _ hAa (fitH HGO.out) (u8s_one _) (szH HGO.out) ?_); intro v405 hAb oA sA; try simp only [Act.put, List.setIfInBounds_toArray, List.set_cons_zero, List.set_cons_succ]; refine fpause ?_; try simp only [Act.put, List.setIfInBounds_toArray, List.set_cons_zero, List.set_cons_succ]))
                  have lA : yP403.heap.size ≤ A := by have := Ae.out; omega
                  have bA : Below yP403.heap.size yP403 v405 := below_only nA.below oA lA nA.below.size
                  have rrA : Row v405 A 32 (u8s (goneV r L h)) := hAb.congr (allH HGO.out)
                  have geA : w.heap.size ≤ A := Nat.le_trans bel_404.size lA
                  have lAx := lA
                  clear hAa hAb nA oA sA Ae lA
                  have X_406 : Row v405 X 32 (u8s h) := X_404.old bA
                  have P_406 : Own kH v405 w.heap.size p' cp' (came ++ [h]) := P_404.below bA
                  have V_406 : CAt v405 F2 B r (putV r L h b3) := V_404.old bA
                  have Q_406 : Own kH v405 w.heap.size q cq gone := Q_404.below bA
                  have bel_406 : Chg (fun _ => False) w v405 := bel_404.old bA
                  clear X_404 P_404 V_404 Q_404 bel_404 bA
                  refine fgo ?_
                  go_wp2_with fail
                  go_roundw
                  case rel => exact ⟨⟨k + 1, by omega, by go_num⟩, ⟨putV r L h b3, F2, came ++ [h], gone, p', q, cp', cq, V_406, fr2, HLS.out, by rw [List.length_append]; rfl, rfl, P_406, Q_406, nP3, nQ3, nPQ2, fun j ej => by have := (Value.int.inj ej).2; simp only [List.length_append, List.length_singleton]; omega⟩, bel_406.below (fun k hk => hk.elim) (Nat.le_refl _)⟩
                  case measure => simp [intOf]; omega
        · skip
          obtain rfl : k = l.length := by omega
          have HC3 : Hid (came.length ≤ 300) := Lib.hid (by have := HLL.out; omega)
          have HGOE := Lib.hid hla.go; have HKEE := Lib.hid hla.ke
          have hcp := hP.cap
          have d0 : (if ((came.length : Int) - (r : Int)) < 0 then (0 : Int) else (came.length : Int) - (r : Int)) = ((came.length - r : Nat) : Int) := by split <;> omega
          have HWS : Hid (IntKind.i64.wrap ((came.length : Int) - (r : Int)) = (came.length : Int) - (r : Int)) := Lib.hid (by rw [IntKind.wrap_i64]; have := HC3.out; have := HR100.out; omega)
          have HTL : Hid (came.length - r = (came.take (came.length - r)).length) := Lib.hid (by rw [List.length_take]; omega)
          have HDL : Hid (came.length - (came.length - r) = (came.drop (came.length - r)).length) := Lib.hid (by rw [List.length_drop])
          have HGL : Hid (gone.length ≤ 1000000) := Lib.hid (by have := HLL.out; omega)
          have hac : came.length - r ≤ cp := by omega
          have hacl : came.length - r ≤ came.length := Nat.sub_le _ _
          have HKL : Hid ((keys L).length ≤ 1000000) := Lib.hid (by rw [keys_len]; have := hV.ok.len; have := HR100.out; omega)
          have HD0 := Lib.hid d0
          clear hlt hla hck hgk d0 hk
          go_wp2_with (first
            | ((with_reducible refine at_slot 73 ?_); (refine arm_want (.int .i64 ((came.length : Int) - (r : Int))) 73 rfl (by kernel_rfl) (run_op_subN _ _ _ _ rfl (came.length : Int) (r : Int) _ rfl rfl HWS.out _) ?_); try simp only [Act.put, List.setIfInBounds_toArray, List.set_cons_zero, List.set_cons_succ])
            | ((with_reducible refine at_slot 74 ?_); (refine arm_max' (o := ⟨some 74, _, _, _, _, _⟩) rfl _ _ _ rfl .i64 _ _ rfl rfl (came.length - r) HD0.out ?_); try simp only [Act.put, List.setIfInBounds_toArray, List.set_cons_zero, List.set_cons_succ]))
          obtain ⟨m, hm⟩ : ∃ m, m = came.length - r := ⟨_, rfl⟩
          rw [← hm] at HTL HDL HGOE HKEE hac hacl ⊢
          clear hm HD0 HWS
          refine wp_region_held (S := fun w' => True) (by kernel_rfl) ?_
          change wpAnyH _ _ _ _ _ _ _ _ wr.drew
          have hd101 : Below wr.heap.size wr wr.drew := (Below.refl _ _).drew
          have V_102 : CAt wr.drew F B r (L) := hV.old hd101
          have P_102 : Own kH wr.drew w.heap.size p cp came := hP.below hd101
          have Q_102 : Own kH wr.drew w.heap.size q cq gone := hQ.below hd101
          have bel_102 : Chg (fun _ => False) w wr.drew := bel0.old hd101
          clear hV hP hQ bel0 hd101
          generalize wr.drew = yz101 at V_102 P_102 Q_102 bel_102 ⊢
          refine h_take 0 (.slice q gone.length cq) rfl 75 rfl (by kernel_rfl) (by kernel_rfl) (by kernel_rfl) (by kernel_rfl) (fun _ _ _ h => h) (fun w' _ => by kernel_rfl) trivial ?_
          simp only [Act.put, List.setIfInBounds_toArray, List.set_cons_zero, List.set_cons_succ]
          refine h_take 1 (.slice p came.length cp) rfl 76 rfl (by kernel_rfl) (by kernel_rfl) (by kernel_rfl) (by kernel_rfl) (fun _ _ _ h => h) (fun w' _ => by kernel_rfl) trivial ?_
          simp only [Act.put, List.setIfInBounds_toArray, List.set_cons_zero, List.set_cons_succ]
          refine h_take 2 (.int .i64 (m : Int)) rfl 77 rfl (by kernel_rfl) (by kernel_rfl) (by kernel_rfl) (by kernel_rfl) (fun _ _ _ h => h) (fun w' _ => by kernel_rfl) trivial ?_
          simp only [Act.put, List.setIfInBounds_toArray, List.set_cons_zero, List.set_cons_succ]
          refine h_take 3 (.slice p m cp) rfl 78 rfl (by kernel_rfl) (by kernel_rfl) (by kernel_rfl) (by kernel_rfl) (fun _ _ _ h => h) (fun w' _ => Sl.run_op_head fH _ _ rfl _ _ _ rfl .i64 _ rfl m rfl hac w') trivial ?_
          simp only [Act.put, List.setIfInBounds_toArray, List.set_cons_zero, List.set_cons_succ]
          refine h_one (i := 4) (by kernel_rfl) (o_call rfl 79 rfl (by kernel_rfl) (run_op_call 14 _ _ rfl #[.slice q gone.length cq, .slice p m cp] (by simp only [List.map_toArray, List.map_cons, List.map_nil]; rfl) Try.func14 (by kernel_rfl) (by kernel_rfl) _) (same_eq gone (came.take m) q p cq cp gone.length m _ rfl HTL.out (Q_102.at fH) ((P_102.at fH).take m) HGL.out HGOE.out) ?_)
          rintro e y103 ⟨rfl, hB⟩
          have V_104 : CAt y103 F B r (L) := V_102.old hB
          have P_104 : Own kH y103 w.heap.size p cp came := P_102.below hB
          have Q_104 : Own kH y103 w.heap.size q cq gone := Q_102.below hB
          have bel_104 : Chg (fun _ => False) w y103 := bel_102.old hB
          clear V_102 P_102 Q_102 bel_102 hB
          refine ⟨_, rfl, trivial, ?_⟩
          simp only [Act.put, List.setIfInBounds_toArray, List.set_cons_zero, List.set_cons_succ]
          refine h_take 5 (.bool true) rfl 80 rfl (by kernel_rfl) (by kernel_rfl) (by kernel_rfl) (by kernel_rfl) (fun _ _ _ h => h) (fun w' _ => by kernel_rfl) trivial ?_
          simp only [Act.put, List.setIfInBounds_toArray, List.set_cons_zero, List.set_cons_succ]
          refine h_take 6 (.pointer (some ⟨B, 0, none⟩)) rfl 81 rfl (by kernel_rfl) (by kernel_rfl) (by kernel_rfl) (by kernel_rfl) (fun _ _ _ h => h) (fun w' _ => by kernel_rfl) trivial ?_
          simp only [Act.put, List.setIfInBounds_toArray, List.set_cons_zero, List.set_cons_succ]
          refine h_take 8 (.slice p came.length cp) rfl 83 rfl (by kernel_rfl) (by kernel_rfl) (by kernel_rfl) (by kernel_rfl) (fun _ _ _ h => h) (fun w' _ => by kernel_rfl) trivial ?_
          simp only [Act.put, List.setIfInBounds_toArray, List.set_cons_zero, List.set_cons_succ]
          refine h_take 9 (.int .i64 (m : Int)) rfl 84 rfl (by kernel_rfl) (by kernel_rfl) (by kernel_rfl) (by kernel_rfl) (fun _ _ _ h => h) (fun w' _ => by kernel_rfl) trivial ?_
          simp only [Act.put, List.setIfInBounds_toArray, List.set_cons_zero, List.set_cons_succ]
          refine h_take 10 (.slice (Sl.onN p m 32 cp) (came.length - m) (cp - m)) rfl 85 rfl (by kernel_rfl) (by kernel_rfl) (by kernel_rfl) (by kernel_rfl) (fun _ _ _ h => h) (fun w' _ => Sl.run_op_tail fH _ _ rfl _ _ _ rfl .i64 _ rfl m rfl hacl w') trivial ?_
          simp only [Act.put, List.setIfInBounds_toArray, List.set_cons_zero, List.set_cons_succ]
          refine h_one (i := 7) (by kernel_rfl) (o_call rfl 82 rfl (by kernel_rfl) (run_op_call 15 _ _ rfl #[.pointer (some ⟨B, 0, none⟩)] (by simp only [List.map_toArray, List.map_cons, List.map_nil]; rfl) Try.func15 (by kernel_rfl) (by kernel_rfl) _) (known_any _ B r L _ V_104 HR100.out) ?_)
          rintro e y105 ⟨⟨q2, cq2, rfl, hq2⟩, hB⟩
          have V_106 : CAt y105 F B r (L) := V_104.old hB
          have P_106 : Own kH y105 w.heap.size p cp came := P_104.below hB
          have Q_106 : Own kH y105 w.heap.size q cq gone := Q_104.below hB
          have bel_106 : Chg (fun _ => False) w y105 := bel_104.old hB
          clear V_104 P_104 Q_104 bel_104 hB
          have hq20 := hq2.low (Nat.zero_le _)
          refine ⟨_, rfl, trivial, ?_⟩
          simp only [Act.put, List.setIfInBounds_toArray, List.set_cons_zero, List.set_cons_succ]
          refine h_one (i := 11) (by kernel_rfl) (o_call rfl 86 rfl (by kernel_rfl) (run_op_call 14 _ _ rfl #[.slice q2 (keys L).length cq2, .slice (Sl.onN p m 32 cp) (came.length - m) (cp - m)] (by simp only [List.map_toArray, List.map_cons, List.map_nil]; rfl) Try.func14 (by kernel_rfl) (by kernel_rfl) _) (same_eq (keys L) (came.drop m) q2 (Sl.onN p m 32 cp) cq2 (cp - m) (keys L).length (came.length - m) _ rfl HDL.out (hq20.at fH) ((P_106.at fH).tail m hcp) HKL.out HKEE.out) ?_)
          rintro e y107 ⟨rfl, hB⟩
          have V_108 : CAt y107 F B r (L) := V_106.old hB
          have P_108 : Own kH y107 w.heap.size p cp came := P_106.below hB
          have Q_108 : Own kH y107 w.heap.size q cq gone := Q_106.below hB
          have Q2_108 : Own kH y107 0 q2 cq2 (keys L) := hq20.below hB
          have bel_108 : Chg (fun _ => False) w y107 := bel_106.old hB
          clear V_106 P_106 Q_106 hq20 bel_106 hB
          refine ⟨_, rfl, trivial, ?_⟩
          simp only [Act.put, List.setIfInBounds_toArray, List.set_cons_zero, List.set_cons_succ]
          refine h_take 12 (.bool true) rfl 87 rfl (by kernel_rfl) (by kernel_rfl) (by kernel_rfl) (by kernel_rfl) (fun _ _ _ h => h) (fun w' _ => by kernel_rfl) trivial ?_
          simp only [Act.put, List.setIfInBounds_toArray, List.set_cons_zero, List.set_cons_succ]
          refine h_take 13 (.bool true) rfl 4 rfl (by kernel_rfl) (by kernel_rfl) (by kernel_rfl) (by kernel_rfl) (fun _ _ _ h => h) (fun w' _ => by kernel_rfl) trivial ?_
          simp only [Act.put, List.setIfInBounds_toArray, List.set_cons_zero, List.set_cons_succ]
          refine wpAnyH_done (by kernel_rfl) ?_ _
          go_wp2_with fail
          go_ret
          exact ⟨rfl, bel_108.below (fun k hk => hk.elim) (Nat.le_refl _)⟩
  · skip
    go_wp2_with (first
      | ((with_reducible refine at_slot 25 ?_); (refine arm_want (.bool true) 25 rfl (by kernel_rfl) (run_op_eqlP' _ _ _ (by kernel_rfl) _ _ rfl none rfl rfl true rfl _) ?_); try simp only [Act.put, List.setIfInBounds_toArray, List.set_cons_zero, List.set_cons_succ]))
    go_ret
    exact ⟨rfl, bel_3.below (fun k hk => hk.elim) (Nat.le_refl _)⟩
end Go.Proofs.Ytbpghogdjpobnaa.Vd
