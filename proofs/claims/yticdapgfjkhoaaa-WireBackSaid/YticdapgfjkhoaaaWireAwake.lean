/-
  The contract of layer 4's awake, over this seat's translation.
-/
import Derived.Test.YticdapgfjkhoaaaWireBackSpec
namespace Go.Proofs.Yticdapgfjkhoaaa.Wi
open Go.ChangeShapes Go.WideShapes Go.ChangeAt Go.RowKit Go.Proofs.Yticdapgfjkhoaaa.Mem Go.Proofs.Yticdapgfjkhoaaa.Bt Go.Proofs.Yticdapgfjkhoaaa.Tg
set_option linter.unusedVariables false
set_option linter.unusedSimpArgs false

theorem Wr.keep {w w' : World} {base W R d : Nat} {p : Option Addr} {cap : Nat} {bs : List Nat} {s : RS} (h : Wr w base W p cap bs) (hA : RdAt w R d s) (ho : Only R w w') : Wr w' base W p cap bs := by
  obtain ⟨q, c, hA⟩ := hA.ex
  have hne : W ≠ R := fun e => by
    have h1 := h.row
    rw [e] at h1
    have := Option.some.inj ((show w.heap[R]? = _ from h1).symm.trans hA.row)
    have := (Obj.cells.inj this).2.1
    cases this
  exact ⟨h.row.only ho hne, own_step h.own (Step.of_only R none ho) (fun k hk => by simp [blk] at hk) (fun k hk => by rw [← Option.some.inj hk]; exact row_not_own hA.row (by decide) h.own), h.low⟩
theorem built_wr : Try.prog.built 28 [] = some [.slice none 0 0].toArray := by kernel_rfl
section
variable {ops : Array Oper} {rest : List Oper} {o : Oper} {a : Act} {w : World} {Q : Exit → Act → World → Prop}
/-- A slice that is written out, behind '&&' or '||'. -/
theorem arm_buildSliceG (hw : Region.wanted o (yielded ops a.tmps) = true) (n : Nat) (parts : Array (Nat × Operand)) (ho : o.op = .buildSlice 26 n parts) (vs : List Value) (pv : Array (Nat × Value)) (hpv : (parts.map fun (i, x) => (i, a.eval x)) = pv)
    (hr : ∀ w : World, (Instr.buildSlice 26 n pv).run Try.prog w = .ok (.slice (some ⟨w.heap.size, 0, none⟩) n n) (w.alloc (.cells vs.toArray 5)))
    (h : ∀ b w2, Hid (b = w.heap.size) → Row w2 b 5 vs → New w w2 → wpList Try.prog ops Q rest (a.put o.dst (.slice (some ⟨b, 0, none⟩) n n)) w2) : wpList Try.prog ops Q (o :: rest) a w := by
  refine BigFrame.wpList_want hw fun K hK => ?_
  unfold Oper.wp execOp
  simp only [ho, hpv, Sem.run_bind, hr w, Result.andThen_ok, Sem.run_pure]
  exact hK _ _ (h _ _ rfl (heap_alloc_new _ _) (new_alloc _ _))
/-- 'make([]byte, n)', likewise. -/
theorem arm_makeG (hw : Region.wanted o (yielded ops a.tmps) = true) (l c : Operand) (ho : o.op = .makeSlice 26 l c) (i : Int) (hl : a.eval l = .int .i64 i) (hc : a.eval c = .int .i64 i) (n : Nat) (hn : i = (n : Int)) (hm : n ≤ 1000000)
    (h : ∀ b w2, Hid (b = w.heap.size) → Row w2 b 5 (u8s (List.replicate n 0)) → New w w2 → wpList Try.prog ops Q rest (a.put o.dst (.slice (some ⟨b, 0, none⟩) n n)) w2) : wpList Try.prog ops Q (o :: rest) a w := by
  subst hn
  refine BigFrame.wpList_want hw fun K hK => ?_
  have hr := run_make_row' (P := Try.prog) 26 5 (.int .u8 0) 1 (by kernel_rfl) info5 rfl .i64 .i64 n (by omega) (by omega) w
  rw [made_u8s] at hr
  unfold Oper.wp execOp
  simp only [ho, hl, hc, Sem.run_bind, hr, Result.andThen_ok, Sem.run_pure]
  exact hK _ _ (h _ _ rfl (heap_alloc_new _ _) (new_alloc _ _))
end
theorem bs6 (w : World) : (Instr.buildSlice 26 6 #[(0, .int .u8 0), (1, .int .u8 0), (2, .int .u8 1), (3, .int .u8 2), (4, .int .u8 1), (5, .int .u8 7)]).run Try.prog w = .ok (.slice (some ⟨w.heap.size, 0, none⟩) 6 6) (w.alloc (.cells (u8s [0, 0, 1, 2, 1, 7]).toArray 5)) := by kernel_rfl
theorem sep_new {w : World} {base b : Nat} {p : Option Addr} {cap : Nat} {bs : List Nat} (h : Own w base p cap bs) (hb : w.heap.size ≤ b) : Sep p (some ⟨b, 0, none⟩) := fun k hk e => by
  have h1 := (own_blk h hk).2.1
  have : b = k := Option.some.inj e
  omega
def six : List Nat := [0, 0, 1, 2, 1, 7]

set_option maxHeartbeats 1000000 in
set_option maxRecDepth 100000 in
theorem awake_any (w : World) : Calls Try.prog 7 #[] w fun e w' => e = .returned (.bool true) ∧ Below w.heap.size w w' := by
  go_enter Try.func7, Try.ntmps7
  go_wp2_with (first
    | ((with_reducible refine at_slot 10 ?_); (refine arm_build (o := ⟨some 10, _, _, _, _, _⟩) rfl _ _ rfl [.slice none 0 0] built_wr ?_))
    | ((with_reducible refine at_slot 11 ?_); (refine arm_box (o := ⟨some 11, _, _, _, _, _⟩) rfl _ _ rfl [.slice none 0 0] rfl ?_); intro W w1 hW hR1 hN1))
  have eW := hW.out
  have hWr1 : Wr w1 w.heap.size W none 0 [] := wr_new hR1 (by omega)
  have bel1 : Below w.heap.size w w1 := hN1.below
  clear eW hW hR1 hN1
  refine (wNum_any 258 w.heap.size W none 0 [] w1 hWr1 bel1.size (by simp) (by omega)).mono ?_
  rintro e w2 ⟨rfl, p2, c2, hWr2, hS2⟩
  have bel2 : Below w.heap.size w w2 := bel1.trans (hWr1.below hS2 bel1.size)
  clear hWr1 hS2 bel1
  go_wp2_with (first
    | ((with_reducible refine at_slot 15 ?_); (refine arm_buildSlice (o := ⟨some 15, _, _, _, _, _⟩) rfl 1 _ rfl [.int .u8 ((7 : Nat) : Int)] #[(0, .int .u8 ((7 : Nat) : Int))] (by simp [Act.eval]) (bs1 _) ?_); intro b3 w3 hb3 hR3 hN3))
  have e3 := hb3.out
  have bel3 : Below w.heap.size w w3 := below_step bel2 bel2.size hN3.below
  have hrd3 : Rd w3 (some ⟨b3, 0, none⟩) [7] := (own_row (base := 0) (bs := [7]) hR3 (by omega) (by simp)).rd
  have hsep : Sep p2 (some ⟨b3, 0, none⟩) := sep_new hWr2.own (by omega)
  have hWr3 := hWr2.old hN3.below
  clear hWr2 bel2 hR3 hN3 hb3 e3
  refine (wText_any [7] (some ⟨b3, 0, none⟩) 1 w.heap.size W p2 c2 _ w3 hWr3 bel3.size (by simp [put_length]) hrd3 (fun e => by cases e) (fun _ => hsep) (by simp [maxLen])).mono ?_
  rintro e w4 ⟨rfl, p4, c4, hWr4, hS4⟩
  have bel4 : Below w.heap.size w w4 := bel3.trans (hWr3.below hS4 bel3.size)
  have hWr : Wr w4 w.heap.size W p4 c4 six := hWr4
  clear hWr3 hWr4 hS4 bel3 hrd3 hsep
  go_wp2_with fail
  refine (wBytes_any w.heap.size W p4 c4 six w4 hWr (by simp [six])).mono ?_
  rintro e w5 ⟨⟨p5, c5, rfl, hO5⟩, hB5⟩
  have bel5 : Below w.heap.size w w5 := below_step bel4 bel4.size hB5
  have hWr5 := hWr.old hB5
  have hrd5 := hO5.rd
  have hnil5 := own_none hO5
  clear hWr bel4 hB5 hO5
  have H6 : Hid (six.length = 6) := Lib.hid rfl
  go_wp2_with fail
  refine (rNew_any six p5 c5 w5 hrd5 hnil5 (by simp [six]) (by unfold six AllLt; decide)).mono ?_
  rintro e w6 ⟨⟨R, d, rfl, hA6, hlR0, _⟩, hB6⟩
  have hlR : w.heap.size ≤ R := Nat.le_trans bel5.size hlR0
  clear hlR0
  have bel6 : Below w.heap.size w w6 := below_step bel5 bel5.size hB6
  have hWr6 := hWr5.old hB6
  have hrd6 := hrd5.below hB6
  clear hWr5 hrd5 hnil5 bel5 hB6
  have hE : ∀ w : World, (binOp .eql 40 (.pointer (some ⟨R, 0, none⟩)) (.pointer none)).run Try.prog w = .ok (.bool false) w := fun w => by kernel_rfl
  go_wp2_with fail
  refine (rNum_any R d (six, 0) w6 hA6 (by simp [six])).mono ?_
  rintro e w7 ⟨rfl, hA7, hO7⟩
  rw [show numR 4 (six, 0) = (258, ([1, 7], 0)) by decide] at hA7 ⊢
  have lR : w.heap.size ≤ R := hlR
  have bel7 : Below w.heap.size w w7 := below_only bel6 hO7 lR bel6.size
  have hWr7 := hWr6.keep hA6 hO7
  have hrd7 := hA6.keep_rd hO7 hrd6
  clear hWr6 hrd6 bel6 hA6 hO7 hE
  go_wp2_with fail
  refine (rLeft_any R d _ w7 hA7).mono ?_
  rintro e w8 ⟨rfl, rfl⟩
  go_wp2_with fail
  refine (rText_any 1 R d _ w7 hA7 (by simp)).mono ?_
  rw [show textR 1 ([1, 7], 0) = ([7], ([], 0)) by decide]
  rintro e w9 ⟨⟨q9, c9, rfl, _⟩, hA9, hO9⟩
  have bel9 : Below w.heap.size w w9 := below_only bel7 hO9 lR bel7.size
  have hWr9 := hWr7.keep hA7 hO9
  have hrd9 := hA7.keep_rd hO9 hrd7
  clear hWr7 hrd7 bel7 hA7 hO9
  go_wp2_with fail
  refine (rEnd_any R d _ w9 hA9).mono ?_
  rintro e w10 ⟨rfl, rfl⟩
  go_wp2_with fail
  refine (rByte_any R d _ w9 hA9 (by simp)).mono ?_
  rw [show numR 1 ([], 0) = (0, ([], 3)) by decide]
  rintro e w11 ⟨rfl, hA11, hO11⟩
  have bel11 : Below w.heap.size w w11 := below_only bel9 hO11 lR bel9.size
  have hWr11 := hWr9.keep hA9 hO11
  have hrd11 := hA9.keep_rd hO11 hrd9
  clear hWr9 hrd9 bel9 hA9 hO11
  rw [show endR ([], 0) = 0 from rfl]
  go_wp2_with (first
    | ((with_reducible refine at_slot 36 ?_); (refine arm_buildSliceG (o := ⟨some 36, _, _, _, _, _⟩) (by kernel_rfl) 6 _ rfl (u8s [0, 0, 1, 2, 1, 7]) #[(0, .int .u8 0), (1, .int .u8 0), (2, .int .u8 1), (3, .int .u8 2), (4, .int .u8 1), (5, .int .u8 7)] (by simp [Act.eval]) bs6 ?_); intro b12 w12 hb12 hR12 hN12))
  have bel12 : Below w.heap.size w w12 := below_step bel11 bel11.size hN12.below
  have hWr12 := hWr11.old hN12.below
  have hA12 := hA11.old hN12.below
  have hrd12 := hrd11.below hN12.below
  have hrdb : Rd w12 (some ⟨b12, 0, none⟩) six := (own_row (base := 0) (bs := six) hR12 (by omega) (by simp [six])).rd
  clear hWr11 hA11 hrd11 hR12 hN12 hb12 bel11
  refine (same_any six six p5 (some ⟨b12, 0, none⟩) c5 6 w12 hrd12 hrdb (by simp [six]) (by simp [six])).mono ?_
  rw [decide_eq_true (rfl : six = six)]
  rintro e w13 ⟨rfl, hB13⟩
  have bel13 : Below w.heap.size w w13 := below_step bel12 bel12.size hB13
  have hWr13 := hWr12.old hB13
  have hA13 := hA12.old hB13
  clear hWr12 hA12 hrd12 hrdb hB13 bel12
  go_wp2_with fail
  refine (rEnd_any R d _ w13 hA13).mono ?_
  rw [show endR ([], 3) = 3 from rfl]
  rintro e w14 ⟨rfl, rfl⟩
  go_wp2_with (first
    | ((with_reducible refine at_slot 67 ?_); (refine arm_makeG (o := ⟨some 67, _, _, _, _, _⟩) (by kernel_rfl) _ _ rfl 256 rfl rfl 256 rfl (by omega) ?_); intro b15 w15 hb15 hR15 hN15))
  have e15 := hb15.out
  have bel15 : Below w.heap.size w w15 := below_step bel13 bel13.size hN15.below
  have hsep : Sep p4 (some ⟨b15, 0, none⟩) := sep_new hWr13.own (by omega)
  have hWr15 := hWr13.old hN15.below
  obtain ⟨zs, hzs⟩ : ∃ zs : List Nat, zs = List.replicate 256 0 := ⟨_, rfl⟩
  have hzl : zs.length = 256 := by rw [hzs]; simp
  have hrd15 : Rd w15 (some ⟨b15, 0, none⟩) zs := (own_row (base := 0) (bs := zs) (by rw [hzs]; exact hR15) (by omega) (by omega)).rd
  have ht := wText_any zs (some ⟨b15, 0, none⟩) 256 w.heap.size W p4 c4 six w15 hWr15 bel15.size (by simp [six]) hrd15 (fun e => by cases e) (fun _ => hsep) (by unfold maxLen; omega)
  rw [hzl] at ht
  rw [show decide (256 ≤ 255) = false from rfl] at ht
  clear hWr13 hR15 hN15 hb15 e15 bel13 hzs hzl hrd15 hsep
  refine ht.mono ?_
  rintro e w16 ⟨rfl, p16, c16, hWr16, hS16⟩
  have bel16 : Below w.heap.size w w16 := bel15.trans (hWr15.below hS16 bel15.size)
  clear hWr15 hS16 bel15 hWr16 hA13 ht
  go_wp2_with fail
  go_ret
  exact ⟨rfl, bel16⟩
end Go.Proofs.Yticdapgfjkhoaaa.Wi
