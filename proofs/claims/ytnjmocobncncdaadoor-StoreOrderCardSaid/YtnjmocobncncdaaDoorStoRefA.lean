import Derived.Test.YtnjmocobncncdaaDoorStoIn
import Derived.Test.YtnjmocobncncdaaDoorLnkSpec
import Derived.Test.YtnjmocobncncdaaDoorOrdAll
import Derived.Test.YtnjmocobncncdaaDoorFoot
import Derived.Test.YtnjmocobncncdaaDoorSlisAll
import Derived.Test.YtnjmocobncncdaaDoorMemAll
import Derived.OrdersHeld
import Derived.Test.YtnjmocobncncdaaDoorEpoAll
import Derived.Test.YtnjmocobncncdaaDoorCmp
import Derived.LoopTactic
import Derived.Test.YtnjmocobncncdaaDoorFitAll
/-
  The document's store, as cells: states and keys in slices, room, pin; where a digest stands. Over this seat's translation.
-/
namespace Go.Proofs.YtnjmocobncncdaaDoor.So
open Go.ChangeShapes Go.WideShapes Go.ChangeAt Go.RowKit Go.Proofs.YtnjmocobncncdaaDoor.Mem Go.Proofs.YtnjmocobncncdaaDoor.Bt
open Go.Proofs.YtnjmocobncncdaaDoor.Ep (H32 zh zh_ok Has h_len szH zH fitH allH one_app)
open Go.Proofs.YtnjmocobncncdaaDoor.Sl (Kind At bk)
open Go.Proofs.YtnjmocobncncdaaDoor.Sa (Sta scs digS)
open Go.Proofs.YtnjmocobncncdaaDoor.Od (Ky kcs kRK fRK keyN kcs_len k33)
set_option linter.unusedVariables false
set_option linter.unusedSimpArgs false

section
variable {w w' : World} {F G F' : Nat → Prop} {S r : Nat} {pin : Option (List Nat)} {L : List Sta}
end
section
variable {o : Oper} {a : Act}
end
end Go.Proofs.YtnjmocobncncdaaDoor.So

/-
  The contracts of the document's New and Find, of layer 19. Over this seat's translation.
-/
namespace Go.Proofs.YtnjmocobncncdaaDoor.So
open Go.ChangeShapes Go.WideShapes Go.ChangeAt Go.RowKit Go.Proofs.YtnjmocobncncdaaDoor.Mem Go.Proofs.YtnjmocobncncdaaDoor.Bt
open Go.Proofs.YtnjmocobncncdaaDoor.Ep (H32 zh zh_ok Has h_len szH zH fitH allH one_app)
open Go.Proofs.YtnjmocobncncdaaDoor.Sl (Kind At bk)
open Go.Proofs.YtnjmocobncncdaaDoor.Sa (Sta scs digS)
open Go.Proofs.YtnjmocobncncdaaDoor.Od (Ky kcs kRK fRK keyN kcs_len k33)
set_option linter.unusedVariables false
set_option linter.unusedSimpArgs false

end Go.Proofs.YtnjmocobncncdaaDoor.So

/-
  The contract of the document's PinOf, of layer 19. Over this seat's translation.
-/
namespace Go.Proofs.YtnjmocobncncdaaDoor.So
open Go.ChangeShapes Go.WideShapes Go.ChangeAt Go.RowKit Go.Proofs.YtnjmocobncncdaaDoor.Mem Go.Proofs.YtnjmocobncncdaaDoor.Bt
open Go.Proofs.YtnjmocobncncdaaDoor.Ep (H32 zh zh_ok Has h_len szH zH fitH allH one_app)
open Go.Proofs.YtnjmocobncncdaaDoor.Sl (Kind At bk)
open Go.Proofs.YtnjmocobncncdaaDoor.Sa (Sta scs digS)
open Go.Proofs.YtnjmocobncncdaaDoor.Od (Ky kcs kRK fRK keyN kcs_len k33)
set_option linter.unusedVariables false
set_option linter.unusedSimpArgs false

end Go.Proofs.YtnjmocobncncdaaDoor.So

/-
  The contract of the document's Same, of layer 19. Over this seat's translation.
-/
namespace Go.Proofs.YtnjmocobncncdaaDoor.So
open Go.ChangeShapes Go.WideShapes Go.ChangeAt Go.RowKit Go.Proofs.YtnjmocobncncdaaDoor.Mem Go.Proofs.YtnjmocobncncdaaDoor.Bt
open Go.Proofs.YtnjmocobncncdaaDoor.Ep (H32 zh zh_ok Has h_len szH zH fitH allH one_app)
open Go.Proofs.YtnjmocobncncdaaDoor.Sl (Kind At bk)
open Go.Proofs.YtnjmocobncncdaaDoor.Sa (Sta scs digS)
open Go.Proofs.YtnjmocobncncdaaDoor.Od (Ky kcs kRK fRK keyN kcs_len k33)
set_option linter.unusedVariables false
set_option linter.unusedSimpArgs false

set_option maxRecDepth 100000 in
theorem run_op_neqRK {o : Oper} {a : Act} (x y : Operand) (t' : TypeId) (ho : o.op = .binOp .neq 80 x y t') (c d : Ky) (kc : c.Ok) (kd : d.Ok) (hx : a.eval x = .agg (kcs c).toArray) (hy : a.eval y = .agg (kcs d).toArray) (v b : Bool) (hb : b = true ↔ c = d) (hv : (!b) = v) (w : World) : (execOp a.eval o).run Tryd.prog w = .ok (.value (.bool v)) w :=
  hv ▸ run_op_neqF _ x y t' ho 3 (by omega) (.struct (Tryd.prog.fieldsOf 80)) (by kernel_rfl) rfl (by kernel_rfl) (kcs c) (kcs d) hx hy (Od.fit_rkey 0 kc) (Od.fit_rkey 0 kd) b (Od.key_iff kc kd hb) w
theorem range_k {w w' : World} {g o : Nat} {x : Ky} (h : w.rangeAt g o (kcs x)) (hb : Below w.heap.size w w') : w'.rangeAt g o (kcs x) :=
  range_block h (hb.block g (range_lt h (fun e => by cases e)))
structure SmRel (w : World) (l m : List Ky) (i : Value) (wr : World) : Prop where
  ex : ∃ k : Nat, k ≤ l.length ∧ i = .int .i64 (k : Int) ∧ l.take k = m.take k
  bel : Below w.heap.size w wr
structure RSamePost (w : World) (l m : List Ky) (e : Ending) (w' : World) : Prop where
  ret : ∃ b, e = .returned (.bool b) ∧ (b = true ↔ l = m)
  bel : Below w.heap.size w w'
set_option maxHeartbeats 4000000 in
set_option maxRecDepth 100000 in
theorem rssame_any (l m : List Ky) (p q : Option Addr) (cp cq : Nat) (w : World) (hp : At kRK w p l) (hq : At kRK w q m) (hl : l.length ≤ 1000000) :
    Calls Tryd.prog 16 #[.slice p l.length cp, .slice q m.length cq] w (RSamePost w l m) := by
  by_cases hlen : l.length = m.length
  · have HP0 := Lib.hid hp; have HQ0 := Lib.hid hq; have HL := Lib.hid hl; have HLM := Lib.hid hlen
    have d1 : decide ((l.length : Int) = (m.length : Int)) = !false := decide_eq_true (by rw [hlen])
    clear hp hq hl hlen
    go_enter Tryd.func16, Tryd.ntmps16
    go_wp2_with (first
      | ((with_reducible refine at_slot 10 ?_); (refine arm_want (.bool false) 10 rfl (by kernel_rfl) (cmp_neq _ _ .i64 (by kernel_rfl) _ _ rfl .i64 (l.length : Int) (m.length : Int) rfl rfl false (d1) _) ?_); try simp only [Act.put, List.setIfInBounds_toArray, List.set_cons_zero, List.set_cons_succ]))
    have h0 : SmRel w l m (.int .i64 0) w := ⟨⟨0, by omega, rfl, rfl⟩, Below.refl _ _⟩
    go_loopw [5] (fun i wr => SmRel w l m i wr) (fun i _ => l.length - (intOf i).toNat)
    case atStart => exact h0
    case round =>
      clear h0
      obtain ⟨⟨k, hk, rfl, ht⟩, bel⟩ := hrel
      have hL := HL.out
      have hLM := HLM.out
      by_cases hlt : k < l.length
      · obtain ⟨x, g, o, hx, kx, e1, hg, hrx⟩ := (HP0.out.below bel).get hlt
        obtain ⟨y, g2, o2, hy, ky, e2, hg2, hry⟩ := (HQ0.out.below bel).get (show k < m.length by omega)
        subst e1 e2
        have hlt2 : k < m.length := by omega
        have ik : (k : Int) < (l.length : Int) := by omega
        have k100 : k < 1000000 := by omega
        have hrx2 : wr.rangeAt g (o + k * 65) (kcs x) := hrx
        have hry2 : wr.rangeAt g2 (o2 + k * 65) (kcs y) := hry
        have KX := Lib.hid kx; have KY := Lib.hid ky; have HX := Lib.hid hx; have HY := Lib.hid hy; have HTT := Lib.hid ht
        have BEL := Lib.hid bel
        clear hx hy kx ky bel hrx hry hL hLM ht
        have bel0 : Chg (fun _ => False) wr wr := Chg.refl _ _
        by_cases he : x = y
        · skip
          have HE := Lib.hid he
          go_wp2_with fail
          refine wp_region_held (S := fun w' => w'.rangeAt g (o + k * 65) (kcs x) ∧ w'.rangeAt g2 (o2 + k * 65) (kcs y) ∧ True) (by kernel_rfl) ?_
          change wpAnyH _ _ _ _ _ _ _ _ wr.drew
          have hd1 : Below wr.heap.size wr wr.drew := (Below.refl _ _).drew
          have D_2 : wr.drew.rangeAt g (o + k * 65) (kcs x) := range_k hrx2 hd1
          have E_2 : wr.drew.rangeAt g2 (o2 + k * 65) (kcs y) := range_k hry2 hd1
          have bel_2 : Chg (fun _ => False) wr wr.drew := bel0.old hd1
          clear hrx2 hry2 bel0 hd1
          generalize wr.drew = yz1 at D_2 E_2 bel_2 ⊢
          refine h_take 0 (.slice (some ⟨g, o, none⟩) l.length cp) rfl 17 rfl (by kernel_rfl) (by kernel_rfl) (by kernel_rfl) (by kernel_rfl) (fun _ _ _ h => h) (fun w' _ => by kernel_rfl) ⟨D_2, E_2, trivial⟩ ?_
          simp only [Act.put, List.setIfInBounds_toArray, List.set_cons_zero, List.set_cons_succ]
          refine h_take 1 (.int .i64 (k : Int)) rfl 18 rfl (by kernel_rfl) (by kernel_rfl) (by kernel_rfl) (by kernel_rfl) (fun _ _ _ h => h) (fun w' _ => by kernel_rfl) ⟨D_2, E_2, trivial⟩ ?_
          simp only [Act.put, List.setIfInBounds_toArray, List.set_cons_zero, List.set_cons_succ]
          refine h_take 2 (.pointer (some ⟨g, o + k * 65, none⟩)) rfl 19 rfl (by kernel_rfl) (by kernel_rfl) (by kernel_rfl) (by kernel_rfl) (fun _ _ _ h => h) (fun w' _ => Sl.run_op_index fRK _ _ rfl g o _ _ rfl .i64 _ rfl k rfl (hlt) w') ⟨D_2, E_2, trivial⟩ ?_
          simp only [Act.put, List.setIfInBounds_toArray, List.set_cons_zero, List.set_cons_succ]
          refine h_take 3 (.agg (kcs x).toArray) rfl 20 rfl (by kernel_rfl) (by kernel_rfl) (by kernel_rfl) (by kernel_rfl) (fun _ _ _ h => h) (fun w' hw => run_op_load _ _ rfl g (o + k * 65) rfl (kcs x) hw.1 (Od.sz_rkey KX.out)) ⟨D_2, E_2, trivial⟩ ?_
          simp only [Act.put, List.setIfInBounds_toArray, List.set_cons_zero, List.set_cons_succ]
          refine h_take 4 (.slice (some ⟨g2, o2, none⟩) m.length cq) rfl 21 rfl (by kernel_rfl) (by kernel_rfl) (by kernel_rfl) (by kernel_rfl) (fun _ _ _ h => h) (fun w' _ => by kernel_rfl) ⟨D_2, E_2, trivial⟩ ?_
          simp only [Act.put, List.setIfInBounds_toArray, List.set_cons_zero, List.set_cons_succ]
          refine h_take 5 (.int .i64 (k : Int)) rfl 22 rfl (by kernel_rfl) (by kernel_rfl) (by kernel_rfl) (by kernel_rfl) (fun _ _ _ h => h) (fun w' _ => by kernel_rfl) ⟨D_2, E_2, trivial⟩ ?_
          simp only [Act.put, List.setIfInBounds_toArray, List.set_cons_zero, List.set_cons_succ]
          refine h_take 6 (.pointer (some ⟨g2, o2 + k * 65, none⟩)) rfl 23 rfl (by kernel_rfl) (by kernel_rfl) (by kernel_rfl) (by kernel_rfl) (fun _ _ _ h => h) (fun w' _ => Sl.run_op_index fRK _ _ rfl g2 o2 _ _ rfl .i64 _ rfl k rfl (hlt2) w') ⟨D_2, E_2, trivial⟩ ?_
          simp only [Act.put, List.setIfInBounds_toArray, List.set_cons_zero, List.set_cons_succ]
          refine h_take 7 (.agg (kcs y).toArray) rfl 24 rfl (by kernel_rfl) (by kernel_rfl) (by kernel_rfl) (by kernel_rfl) (fun _ _ _ h => h) (fun w' hw => run_op_load _ _ rfl g2 (o2 + k * 65) rfl (kcs y) hw.2.1 (Od.sz_rkey KY.out)) ⟨D_2, E_2, trivial⟩ ?_
          simp only [Act.put, List.setIfInBounds_toArray, List.set_cons_zero, List.set_cons_succ]
          refine h_take 8 (.bool false) rfl 25 rfl (by kernel_rfl) (by kernel_rfl) (by kernel_rfl) (by kernel_rfl) (fun _ _ _ h => h) (fun w' _ => run_op_neqRK _ _ _ rfl x y KX.out KY.out rfl rfl false true ⟨fun _ => HE.out, fun _ => rfl⟩ rfl w') ⟨D_2, E_2, trivial⟩ ?_
          simp only [Act.put, List.setIfInBounds_toArray, List.set_cons_zero, List.set_cons_succ]
          refine wpAnyH_done (by kernel_rfl) ?_ _
          go_wp2_with fail
          go_roundw
          case rel => exact ⟨⟨k + 1, by omega, by go_num, by rw [List.take_add_one, List.take_add_one, HTT.out, HX.out, HY.out, he]⟩, BEL.out.trans ((bel_2.below (n := wr.heap.size) (fun k hk => hk.elim) (Nat.le_refl _)).mono BEL.out.size)⟩
          case measure => simp [intOf]; omega
        · skip
          have HE := Lib.hid he
          go_wp2_with fail
          refine wp_region_held (S := fun w' => w'.rangeAt g (o + k * 65) (kcs x) ∧ w'.rangeAt g2 (o2 + k * 65) (kcs y) ∧ True) (by kernel_rfl) ?_
          change wpAnyH _ _ _ _ _ _ _ _ wr.drew
          have hd1 : Below wr.heap.size wr wr.drew := (Below.refl _ _).drew
          have D_2 : wr.drew.rangeAt g (o + k * 65) (kcs x) := range_k hrx2 hd1
          have E_2 : wr.drew.rangeAt g2 (o2 + k * 65) (kcs y) := range_k hry2 hd1
          have bel_2 : Chg (fun _ => False) wr wr.drew := bel0.old hd1
          clear hrx2 hry2 bel0 hd1
          generalize wr.drew = yz1 at D_2 E_2 bel_2 ⊢
          refine h_take 0 (.slice (some ⟨g, o, none⟩) l.length cp) rfl 17 rfl (by kernel_rfl) (by kernel_rfl) (by kernel_rfl) (by kernel_rfl) (fun _ _ _ h => h) (fun w' _ => by kernel_rfl) ⟨D_2, E_2, trivial⟩ ?_
          simp only [Act.put, List.setIfInBounds_toArray, List.set_cons_zero, List.set_cons_succ]
          refine h_take 1 (.int .i64 (k : Int)) rfl 18 rfl (by kernel_rfl) (by kernel_rfl) (by kernel_rfl) (by kernel_rfl) (fun _ _ _ h => h) (fun w' _ => by kernel_rfl) ⟨D_2, E_2, trivial⟩ ?_
          simp only [Act.put, List.setIfInBounds_toArray, List.set_cons_zero, List.set_cons_succ]
          refine h_take 2 (.pointer (some ⟨g, o + k * 65, none⟩)) rfl 19 rfl (by kernel_rfl) (by kernel_rfl) (by kernel_rfl) (by kernel_rfl) (fun _ _ _ h => h) (fun w' _ => Sl.run_op_index fRK _ _ rfl g o _ _ rfl .i64 _ rfl k rfl (hlt) w') ⟨D_2, E_2, trivial⟩ ?_
          simp only [Act.put, List.setIfInBounds_toArray, List.set_cons_zero, List.set_cons_succ]
          refine h_take 3 (.agg (kcs x).toArray) rfl 20 rfl (by kernel_rfl) (by kernel_rfl) (by kernel_rfl) (by kernel_rfl) (fun _ _ _ h => h) (fun w' hw => run_op_load _ _ rfl g (o + k * 65) rfl (kcs x) hw.1 (Od.sz_rkey KX.out)) ⟨D_2, E_2, trivial⟩ ?_
          simp only [Act.put, List.setIfInBounds_toArray, List.set_cons_zero, List.set_cons_succ]
          refine h_take 4 (.slice (some ⟨g2, o2, none⟩) m.length cq) rfl 21 rfl (by kernel_rfl) (by kernel_rfl) (by kernel_rfl) (by kernel_rfl) (fun _ _ _ h => h) (fun w' _ => by kernel_rfl) ⟨D_2, E_2, trivial⟩ ?_
          simp only [Act.put, List.setIfInBounds_toArray, List.set_cons_zero, List.set_cons_succ]
          refine h_take 5 (.int .i64 (k : Int)) rfl 22 rfl (by kernel_rfl) (by kernel_rfl) (by kernel_rfl) (by kernel_rfl) (fun _ _ _ h => h) (fun w' _ => by kernel_rfl) ⟨D_2, E_2, trivial⟩ ?_
          simp only [Act.put, List.setIfInBounds_toArray, List.set_cons_zero, List.set_cons_succ]
          refine h_take 6 (.pointer (some ⟨g2, o2 + k * 65, none⟩)) rfl 23 rfl (by kernel_rfl) (by kernel_rfl) (by kernel_rfl) (by kernel_rfl) (fun _ _ _ h => h) (fun w' _ => Sl.run_op_index fRK _ _ rfl g2 o2 _ _ rfl .i64 _ rfl k rfl (hlt2) w') ⟨D_2, E_2, trivial⟩ ?_
          simp only [Act.put, List.setIfInBounds_toArray, List.set_cons_zero, List.set_cons_succ]
          refine h_take 7 (.agg (kcs y).toArray) rfl 24 rfl (by kernel_rfl) (by kernel_rfl) (by kernel_rfl) (by kernel_rfl) (fun _ _ _ h => h) (fun w' hw => run_op_load _ _ rfl g2 (o2 + k * 65) rfl (kcs y) hw.2.1 (Od.sz_rkey KY.out)) ⟨D_2, E_2, trivial⟩ ?_
          simp only [Act.put, List.setIfInBounds_toArray, List.set_cons_zero, List.set_cons_succ]
          refine h_take 8 (.bool true) rfl 25 rfl (by kernel_rfl) (by kernel_rfl) (by kernel_rfl) (by kernel_rfl) (fun _ _ _ h => h) (fun w' _ => run_op_neqRK _ _ _ rfl x y KX.out KY.out rfl rfl true false ⟨fun q => (nomatch q), fun q => absurd q HE.out⟩ rfl w') ⟨D_2, E_2, trivial⟩ ?_
          simp only [Act.put, List.setIfInBounds_toArray, List.set_cons_zero, List.set_cons_succ]
          refine wpAnyH_done (by kernel_rfl) ?_ _
          go_wp2_with fail
          go_ret
          have hne : ¬ l = m := fun e => he (by have h1 := HX.out; rw [e, HY.out] at h1; exact (Option.some.inj h1).symm)
          exact ⟨⟨false, rfl, fun q => (by cases q), fun q => absurd q hne⟩, BEL.out.trans ((bel_2.below (n := wr.heap.size) (fun k hk => hk.elim) (Nat.le_refl _)).mono BEL.out.size)⟩
      · obtain rfl : k = l.length := by omega
        have he : l = m := by rw [List.take_length, hLM, List.take_length] at ht; exact ht
        have HE := Lib.hid he; have HB := Lib.hid bel
        clear he ht bel hL hLM
        go_wp2_with fail
        go_ret
        exact ⟨⟨true, rfl, fun _ => HE.out, fun _ => rfl⟩, HB.out⟩
  · have d1 : decide ((l.length : Int) = (m.length : Int)) = !true := decide_eq_false (by omega)
    have HE : Hid (¬ l = m) := Lib.hid (fun e => hlen (by rw [e]))
    clear hp hq hl hlen
    go_enter Tryd.func16, Tryd.ntmps16
    go_wp2_with (first
      | ((with_reducible refine at_slot 10 ?_); (refine arm_want (.bool true) 10 rfl (by kernel_rfl) (cmp_neq _ _ .i64 (by kernel_rfl) _ _ rfl .i64 (l.length : Int) (m.length : Int) rfl rfl true (d1) _) ?_); try simp only [Act.put, List.setIfInBounds_toArray, List.set_cons_zero, List.set_cons_succ]))
    go_ret
    exact ⟨⟨false, rfl, fun q => (by cases q), fun q => absurd q HE.out⟩, Below.refl _ _⟩
end Go.Proofs.YtnjmocobncncdaaDoor.So
