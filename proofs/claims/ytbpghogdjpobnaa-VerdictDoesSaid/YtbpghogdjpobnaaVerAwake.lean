/-
  The contract of layer 18's awake. Over this seat's translation.
-/
import Derived.Test.YtbpghogdjpobnaaVerPut
import Derived.Test.YtbpghogdjpobnaaVerRef
namespace Go.Proofs.Ytbpghogdjpobnaa.Vd
open Go.ChangeShapes Go.WideShapes Go.ChangeAt Go.RowKit Go.Proofs.Ytbpghogdjpobnaa.Mem Go.Proofs.Ytbpghogdjpobnaa.Bt Go.Proofs.Ytbpghogdjpobnaa.Km
open Go.Proofs.Ytbpghogdjpobnaa.Ep (H32 zh zh_ok Has h_len szH zH fitH allH one_app)
open Go.Proofs.Ytbpghogdjpobnaa.Sl (Kind Own At bk)
set_option linter.unusedVariables false
set_option linter.unusedSimpArgs false

theorem run_eqPN {P : Program} {t e : TypeId} (hu : P.underlying t = some (.pointer e)) (p : Option Addr) (d : Nat) (w : World) : (Op.equalIn (d + 1) t (.pointer p) (.pointer none)).run P w = .ok p.isNone w := by
  cases p <;> simp [Op.equalIn, run_underlying hu]
theorem run_op_eqlP' {P : Program} {o : Oper} {a : Act} (t t' e : TypeId) (hu : P.underlying t = some (.pointer e)) (x y : Operand) (ho : o.op = .binOp .eql t x y t') (p : Option Addr) (hx : a.eval x = .pointer p) (hy : a.eval y = .pointer none) (b : Bool) (hb : p.isNone = b) (w : World) : (execOp a.eval o).run P w = .ok (.value (.bool b)) w := by
  subst hb
  have e1 : (Op.equal t (.pointer p) (.pointer none)).run P w = .ok p.isNone w := run_eqPN hu p 9999 w
  unfold execOp
  simp [ho, hx, hy, eqGuard, binOp, e1, Result.andThen]
def ha : List Nat := 1 :: List.replicate 31 0
def hb : List Nat := 2 :: List.replicate 31 0
theorem ha_ok : H32 ha := ⟨rfl, fun x hx => by
  rcases List.mem_cons.1 hx with rfl | hx
  · decide
  · have := List.eq_of_mem_replicate hx; omega⟩
theorem hb_ok : H32 hb := ⟨rfl, fun x hx => by
  rcases List.mem_cons.1 hx with rfl | hx
  · decide
  · have := List.eq_of_mem_replicate hx; omega⟩
theorem put_to {F : Nat → Prop} {B r : Nat} {L M : VL} {h g : List Nat} {b f : Bool} {w : World} (hC : CAt w F B r L) (hh : H32 h) (hr : r ≤ 100) (e1 : putV r L h b = M) (e2 : goneV r L h = g) (e3 : fullV r L h = f) :
    Calls Try.prog 9 #[.pointer (some ⟨B, 0, none⟩), .agg (u8s h).toArray, .bool b] w fun e w' => e = .returned (.tuple #[.agg (u8s g).toArray, .bool f]) ∧ (∃ F', CAt w' F' B r M ∧ Grew F F' w.heap.size) ∧ Chg F w w' := by
  subst e1 e2 e3
  exact (put_any F B r L h b w hC hh hr).mono fun e w' q => ⟨q.ret, q.ex, q.chg⟩
theorem get_to {F : Nat → Prop} {B r : Nat} {L : VL} {h : List Nat} {v s : Bool} {w : World} (hC : CAt w F B r L) (hh : H32 h) (e1 : (getV L h).getD false = v) (e2 : (getV L h).isSome = s) :
    Calls Try.prog 11 #[.pointer (some ⟨B, 0, none⟩), .agg (u8s h).toArray] w fun e w' => e = .returned (.tuple #[.bool v, .bool s]) ∧ Below w.heap.size w w' := by
  subst e1 e2
  exact get_any F B r L h w hC hh
set_option maxHeartbeats 4000000 in
set_option maxRecDepth 100000 in
theorem awake_any (w : World) :
    Calls Try.prog 6 #[] w fun e w' => e = .returned (.bool true) ∧ Below w.heap.size w w' := by
  have CN := Lib.hid (new_any 1 w)
  go_enter Try.func6, Try.ntmps6
  have bel0 : Chg (fun _ => False) w w := Chg.refl _ _
  go_wp2_with fail
  refine CN.out.mono ?_
  rintro e y0 ⟨(⟨_, _, B, F0, rfl, hV, fr0⟩ | ⟨hN, rfl⟩), hB⟩
  case inr => exact absurd ⟨Int.le_refl _, by decide⟩ hN
  rw [show (1 : Int).toNat = 1 from rfl] at hV
  have bel_1 : Chg (fun _ => False) w y0 := bel0.old hB
  clear bel0 hB
  go_wp2_with (first
    | ((with_reducible refine at_slot 20 ?_); (refine arm_want (.bool false) 20 rfl (by kernel_rfl) (run_op_eqlP' _ _ _ (by kernel_rfl) _ _ rfl (some _) rfl rfl false rfl _) ?_); try simp only [Act.put, List.setIfInBounds_toArray, List.set_cons_zero, List.set_cons_succ])
    | ((with_reducible refine at_slot 25 ?_); (refine arm_build (o := ⟨some 25, _, _, _, _, _⟩) rfl _ _ rfl (u8s ha) (by kernel_rfl) ?_); try simp only [Act.put, List.setIfInBounds_toArray, List.set_cons_zero, List.set_cons_succ])
    | ((with_reducible refine at_slot 26 ?_); (refine arm_build (o := ⟨some 26, _, _, _, _, _⟩) rfl _ _ rfl (u8s hb) (by kernel_rfl) ?_); try simp only [Act.put, List.setIfInBounds_toArray, List.set_cons_zero, List.set_cons_succ])
    | ((with_reducible refine at_slot 3 ?_); (refine fpause ?_); try simp only [Act.put, List.setIfInBounds_toArray, List.set_cons_zero, List.set_cons_succ]))
  refine fgo ?_
  have hVl := Lib.hid hV.lies
  go_wp2_with (first
    | ((with_reducible refine at_slot 3 ?_); (refine arm_alloc (o := ⟨some 3, _, _, _, _, _⟩) rfl _ rfl (u8s zh) zH ?_); intro A vA Ae hvA nvA; try simp only [Act.put, List.setIfInBounds_toArray, List.set_cons_zero, List.set_cons_succ])
    | ((with_reducible refine at_slot 4 ?_); (refine arm_alloc (o := ⟨some 4, _, _, _, _, _⟩) rfl _ rfl (u8s zh) zH ?_); intro D vD De hvD nvD; try simp only [Act.put, List.setIfInBounds_toArray, List.set_cons_zero, List.set_cons_succ])
    | ((with_reducible refine arm_store (o := ⟨none, _, _, _, _, _⟩) rfl _ _ _ rfl A 0 rfl (u8s ha) rfl _ _ (hvA.old nvD.below) (fitH ha_ok) (u8s_one _) (szH ha_ok) ?_); intro xA hxA oxA sxA; try simp only [Act.put, List.setIfInBounds_toArray, List.set_cons_zero, List.set_cons_succ])
    | ((with_reducible refine arm_store (o := ⟨none, _, _, _, _, _⟩) rfl _ _ _ rfl D 0 rfl (u8s hb) rfl _ _ (hvD.only oxA (by have := De.out; have := Ae.out; have := nvA.size; omega)) (fitH hb_ok) (u8s_one _) (szH hb_ok) ?_); intro xD hxD oxD sxD; try simp only [Act.put, List.setIfInBounds_toArray, List.set_cons_zero, List.set_cons_succ]; refine fpause ?_; try simp only [Act.put, List.setIfInBounds_toArray, List.set_cons_zero, List.set_cons_succ]))
  have q1 := Ae.out; have q2 := De.out; have q3 := nvA.size; have q4 := nvD.size
  have rA : Row xD A 32 (u8s ha) := (hxA.congr (allH ha_ok)).only oxD (by omega)
  have rD : Row xD D 32 (u8s hb) := hxD.congr (allH hb_ok)
  have hBd : Below y0.heap.size y0 xD := below_only (below_only (below_step nvA.below nvA.below.size nvD.below) oxA (by omega) (by omega)) oxD (by omega) (by have := oxA.size; omega)
  have nA : ¬ F0 A := fun q => by have := hVl.out A q; omega
  have nD : ¬ F0 D := fun q => by have := hVl.out D q; omega
  have geA : w.heap.size ≤ A := by have := bel_1.size; omega
  have geD : w.heap.size ≤ D := by have := bel_1.size; omega
  have nAD : A ≠ D := by omega
  clear q1 q2 q3 q4 Ae De hvA hvD nvA nvD hxA oxA sxA hxD oxD sxD hVl
  have V_2 : CAt xD F0 B 1 ([]) := hV.old hBd
  have bel_2 : Chg (fun _ => False) w xD := bel_1.old hBd
  clear hV bel_1 hBd
  refine fgo ?_
  go_wp2_with (first
    | ((with_reducible refine at_slot 29 ?_); (refine arm_load (o := ⟨some 29, _, _, _, _, _⟩) rfl _ _ rfl A 0 rfl (u8s ha) ((Has.refl _).range rA) (szH ha_ok) ?_); try simp only [Act.put, List.setIfInBounds_toArray, List.set_cons_zero, List.set_cons_succ]))
  refine (put_to (L := []) (M := [(ha, true)]) (g := zh) (f := false) V_2 ha_ok (by decide) rfl rfl rfl).mono ?_
  rintro e yP3 ⟨rfl, ⟨F1, hV2, hG2⟩, hc⟩
  have mA := notF_grew nA hG2 rA.lt
  have mD := notF_grew nD hG2 rD.lt
  have fr1 := hG2.from fr0 bel_2.size
  have V_4 : CAt yP3 F1 B 1 ([(ha, true)]) := hV2
  have A_4 : Row yP3 A 32 (u8s ha) := rA.chg hc nA
  have D_4 : Row yP3 D 32 (u8s hb) := rD.chg hc nD
  have bel_4 : Chg (fun _ => False) w yP3 := bel_2.fresh hc fr0
  clear V_2 rA rD bel_2 hc
  clear nA
  have nA := mA
  clear mA
  clear nD
  have nD := mD
  clear mD
  clear hG2
  have l1 := Lib.hid V_4.lies
  go_wp2_with (first
    | ((with_reducible refine at_slot 5 ?_); (refine arm_alloc (o := ⟨some 5, _, _, _, _, _⟩) rfl _ rfl (u8s zh) zH ?_); intro G v5a Ge hGa nG; try simp only [Act.put, List.setIfInBounds_toArray, List.set_cons_zero, List.set_cons_succ])
    | ((with_reducible refine arm_store (o := ⟨none, _, _, _, _, _⟩) rfl _ _ _ rfl G 0 rfl (u8s zh) rfl _ _ hGa (fitH zh_ok) (u8s_one _) (szH zh_ok) ?_); intro v5 hGb oG sG; try simp only [Act.put, List.setIfInBounds_toArray, List.set_cons_zero, List.set_cons_succ])
    | ((with_reducible refine at_slot 35 ?_); (refine arm_load (o := ⟨some 35, _, _, _, _, _⟩) rfl _ _ rfl A 0 rfl (u8s ha) ((Has.refl _).range ((A_4.old nG.below).only oG (by have := Ge.out; have := A_4.lt; omega))) (szH ha_ok) ?_); try simp only [Act.put, List.setIfInBounds_toArray, List.set_cons_zero, List.set_cons_succ]))
  have lG : yP3.heap.size ≤ G := by have := Ge.out; omega
  have bG : Below yP3.heap.size yP3 v5 := below_only nG.below oG lG nG.below.size
  have rrG : Row v5 G 32 (u8s zh) := hGb.congr (allH zh_ok)
  have geG : w.heap.size ≤ G := Nat.le_trans bel_4.size lG
  have lGx := lG
  clear hGa hGb nG oG sG Ge lG
  have V_6 : CAt v5 F1 B 1 ([(ha, true)]) := V_4.old bG
  have A_6 : Row v5 A 32 (u8s ha) := A_4.old bG
  have D_6 : Row v5 D 32 (u8s hb) := D_4.old bG
  have bel_6 : Chg (fun _ => False) w v5 := bel_4.old bG
  clear V_4 A_4 D_4 bel_4 bG
  have nG : ¬ F1 G := fun q => by have := l1.out G q; omega
  clear l1
  refine (get_to (v := true) (s := true) V_6 ha_ok rfl rfl).mono ?_
  rintro e y7 ⟨rfl, hB⟩
  have V_8 : CAt y7 F1 B 1 ([(ha, true)]) := V_6.old hB
  have A_8 : Row y7 A 32 (u8s ha) := A_6.old hB
  have D_8 : Row y7 D 32 (u8s hb) := D_6.old hB
  have G_8 : Row y7 G 32 (u8s zh) := rrG.old hB
  have bel_8 : Chg (fun _ => False) w y7 := bel_6.old hB
  clear V_6 A_6 D_6 rrG bel_6 hB
  go_wp2_with (first
    | ((with_reducible refine at_slot 41 ?_); (refine arm_load (o := ⟨some 41, _, _, _, _, _⟩) rfl _ _ rfl D 0 rfl (u8s hb) ((Has.refl _).range D_8) (szH hb_ok) ?_); try simp only [Act.put, List.setIfInBounds_toArray, List.set_cons_zero, List.set_cons_succ]))
  refine (put_to (L := [(ha, true)]) (M := [(hb, false)]) (g := ha) (f := true) V_8 hb_ok (by decide) (by kernel_rfl) (by kernel_rfl) (by kernel_rfl)).mono ?_
  rintro e yP9 ⟨rfl, ⟨F2, hV2, hG2⟩, hc⟩
  have mA := notF_grew nA hG2 A_8.lt
  have mD := notF_grew nD hG2 D_8.lt
  have mG := notF_grew nG hG2 G_8.lt
  have fr2 := hG2.from fr1 bel_8.size
  have V_10 : CAt yP9 F2 B 1 ([(hb, false)]) := hV2
  have A_10 : Row yP9 A 32 (u8s ha) := A_8.chg hc nA
  have D_10 : Row yP9 D 32 (u8s hb) := D_8.chg hc nD
  have G_10 : Row yP9 G 32 (u8s zh) := G_8.chg hc nG
  have bel_10 : Chg (fun _ => False) w yP9 := bel_8.fresh hc fr1
  clear V_8 A_8 D_8 G_8 bel_8 hc
  clear nA
  have nA := mA
  clear mA
  clear nD
  have nD := mD
  clear mD
  clear nG
  have nG := mG
  clear mG
  clear hG2
  go_wp2_with (first
    | ((with_reducible refine at_slot 9 ?_); (refine arm_alloc (o := ⟨some 9, _, _, _, _, _⟩) rfl _ rfl (u8s zh) zH ?_); intro I v11a Ie hIa nI; try simp only [Act.put, List.setIfInBounds_toArray, List.set_cons_zero, List.set_cons_succ])
    | ((with_reducible refine arm_store (o := ⟨none, _, _, _, _, _⟩) rfl _ _ _ rfl I 0 rfl (u8s ha) rfl _ _ hIa (fitH ha_ok) (u8s_one _) (szH ha_ok) ?_); intro v11 hIb oI sI; try simp only [Act.put, List.setIfInBounds_toArray, List.set_cons_zero, List.set_cons_succ])
    | ((with_reducible refine at_slot 47 ?_); (refine arm_load (o := ⟨some 47, _, _, _, _, _⟩) rfl _ _ rfl A 0 rfl (u8s ha) ((Has.refl _).range ((A_10.old nI.below).only oI (by have := Ie.out; have := A_10.lt; omega))) (szH ha_ok) ?_); try simp only [Act.put, List.setIfInBounds_toArray, List.set_cons_zero, List.set_cons_succ]))
  have lI : yP9.heap.size ≤ I := by have := Ie.out; omega
  have bI : Below yP9.heap.size yP9 v11 := below_only nI.below oI lI nI.below.size
  have rrI : Row v11 I 32 (u8s ha) := hIb.congr (allH ha_ok)
  have geI : w.heap.size ≤ I := Nat.le_trans bel_10.size lI
  have lIx := lI
  clear hIa hIb nI oI sI Ie lI
  have V_12 : CAt v11 F2 B 1 ([(hb, false)]) := V_10.old bI
  have A_12 : Row v11 A 32 (u8s ha) := A_10.old bI
  have D_12 : Row v11 D 32 (u8s hb) := D_10.old bI
  have G_12 : Row v11 G 32 (u8s zh) := G_10.old bI
  have bel_12 : Chg (fun _ => False) w v11 := bel_10.old bI
  clear V_10 A_10 D_10 G_10 bel_10 bI
  refine (get_to (v := false) (s := false) V_12 ha_ok (by kernel_rfl) (by kernel_rfl)).mono ?_
  rintro e y13 ⟨rfl, hB⟩
  have V_14 : CAt y13 F2 B 1 ([(hb, false)]) := V_12.old hB
  have A_14 : Row y13 A 32 (u8s ha) := A_12.old hB
  have D_14 : Row y13 D 32 (u8s hb) := D_12.old hB
  have G_14 : Row y13 G 32 (u8s zh) := G_12.old hB
  have I_14 : Row y13 I 32 (u8s ha) := rrI.old hB
  have bel_14 : Chg (fun _ => False) w y13 := bel_12.old hB
  clear V_12 A_12 D_12 G_12 rrI bel_12 hB
  go_wp2_with (first
    | ((with_reducible refine at_slot 53 ?_); (refine arm_load (o := ⟨some 53, _, _, _, _, _⟩) rfl _ _ rfl D 0 rfl (u8s hb) ((Has.refl _).range D_14) (szH hb_ok) ?_); try simp only [Act.put, List.setIfInBounds_toArray, List.set_cons_zero, List.set_cons_succ]))
  refine (get_to (v := false) (s := true) V_14 hb_ok (by kernel_rfl) (by kernel_rfl)).mono ?_
  rintro e y15 ⟨rfl, hB⟩
  have V_16 : CAt y15 F2 B 1 ([(hb, false)]) := V_14.old hB
  have A_16 : Row y15 A 32 (u8s ha) := A_14.old hB
  have D_16 : Row y15 D 32 (u8s hb) := D_14.old hB
  have G_16 : Row y15 G 32 (u8s zh) := G_14.old hB
  have I_16 : Row y15 I 32 (u8s ha) := I_14.old hB
  have bel_16 : Chg (fun _ => False) w y15 := bel_14.old hB
  clear V_14 A_14 D_14 G_14 I_14 bel_14 hB
  go_wp2_with fail
  refine wp_region_held (S := fun w' => Row w' A 32 (u8s ha) ∧ Row w' D 32 (u8s hb) ∧ Row w' I 32 (u8s ha) ∧ True) (by kernel_rfl) ?_
  change wpAnyH _ _ _ _ _ _ _ _ y15.drew
  have hd17 : Below y15.heap.size y15 y15.drew := (Below.refl _ _).drew
  have V_18 : CAt y15.drew F2 B 1 ([(hb, false)]) := V_16.old hd17
  have A_18 : Row y15.drew A 32 (u8s ha) := A_16.old hd17
  have D_18 : Row y15.drew D 32 (u8s hb) := D_16.old hd17
  have G_18 : Row y15.drew G 32 (u8s zh) := G_16.old hd17
  have I_18 : Row y15.drew I 32 (u8s ha) := I_16.old hd17
  have bel_18 : Chg (fun _ => False) w y15.drew := bel_16.old hd17
  clear V_16 A_16 D_16 G_16 I_16 bel_16 hd17
  generalize y15.drew = yz17 at V_18 A_18 D_18 G_18 I_18 bel_18 ⊢
  refine h_take 0 (.bool false) rfl 57 rfl (by kernel_rfl) (by kernel_rfl) (by kernel_rfl) (by kernel_rfl) (fun _ _ _ h => h) (fun w' _ => by kernel_rfl) ⟨A_18, D_18, I_18, trivial⟩ ?_
  simp only [Act.put, List.setIfInBounds_toArray, List.set_cons_zero, List.set_cons_succ]
  refine h_take 1 (.bool true) rfl 58 rfl (by kernel_rfl) (by kernel_rfl) (by kernel_rfl) (by kernel_rfl) (fun _ _ _ h => h) (fun w' _ => by kernel_rfl) ⟨A_18, D_18, I_18, trivial⟩ ?_
  simp only [Act.put, List.setIfInBounds_toArray, List.set_cons_zero, List.set_cons_succ]
  refine h_take 2 (.bool true) rfl 59 rfl (by kernel_rfl) (by kernel_rfl) (by kernel_rfl) (by kernel_rfl) (fun _ _ _ h => h) (fun w' _ => by kernel_rfl) ⟨A_18, D_18, I_18, trivial⟩ ?_
  simp only [Act.put, List.setIfInBounds_toArray, List.set_cons_zero, List.set_cons_succ]
  refine h_take 3 (.bool true) rfl 60 rfl (by kernel_rfl) (by kernel_rfl) (by kernel_rfl) (by kernel_rfl) (fun _ _ _ h => h) (fun w' _ => by kernel_rfl) ⟨A_18, D_18, I_18, trivial⟩ ?_
  simp only [Act.put, List.setIfInBounds_toArray, List.set_cons_zero, List.set_cons_succ]
  refine h_take 4 (.bool true) rfl 61 rfl (by kernel_rfl) (by kernel_rfl) (by kernel_rfl) (by kernel_rfl) (fun _ _ _ h => h) (fun w' _ => by kernel_rfl) ⟨A_18, D_18, I_18, trivial⟩ ?_
  simp only [Act.put, List.setIfInBounds_toArray, List.set_cons_zero, List.set_cons_succ]
  refine h_take 5 (.bool true) rfl 62 rfl (by kernel_rfl) (by kernel_rfl) (by kernel_rfl) (by kernel_rfl) (fun _ _ _ h => h) (fun w' _ => by kernel_rfl) ⟨A_18, D_18, I_18, trivial⟩ ?_
  simp only [Act.put, List.setIfInBounds_toArray, List.set_cons_zero, List.set_cons_succ]
  refine h_take 6 (.bool true) rfl 63 rfl (by kernel_rfl) (by kernel_rfl) (by kernel_rfl) (by kernel_rfl) (fun _ _ _ h => h) (fun w' _ => by kernel_rfl) ⟨A_18, D_18, I_18, trivial⟩ ?_
  simp only [Act.put, List.setIfInBounds_toArray, List.set_cons_zero, List.set_cons_succ]
  refine h_take 7 (.bool true) rfl 64 rfl (by kernel_rfl) (by kernel_rfl) (by kernel_rfl) (by kernel_rfl) (fun _ _ _ h => h) (fun w' _ => by kernel_rfl) ⟨A_18, D_18, I_18, trivial⟩ ?_
  simp only [Act.put, List.setIfInBounds_toArray, List.set_cons_zero, List.set_cons_succ]
  refine h_take 8 (.bool true) rfl 65 rfl (by kernel_rfl) (by kernel_rfl) (by kernel_rfl) (by kernel_rfl) (fun _ _ _ h => h) (fun w' _ => by kernel_rfl) ⟨A_18, D_18, I_18, trivial⟩ ?_
  simp only [Act.put, List.setIfInBounds_toArray, List.set_cons_zero, List.set_cons_succ]
  refine h_take 9 (.agg (u8s ha).toArray) rfl 66 rfl (by kernel_rfl) (by kernel_rfl) (by kernel_rfl) (by kernel_rfl) (fun _ _ _ h => h) (fun w' hw => run_op_load _ _ rfl I (0) rfl (u8s ha) (((Has.refl _)).range hw.2.2.1) ((szH ha_ok))) ⟨A_18, D_18, I_18, trivial⟩ ?_
  simp only [Act.put, List.setIfInBounds_toArray, List.set_cons_zero, List.set_cons_succ]
  refine h_take 10 (.agg (u8s ha).toArray) rfl 67 rfl (by kernel_rfl) (by kernel_rfl) (by kernel_rfl) (by kernel_rfl) (fun _ _ _ h => h) (fun w' hw => run_op_load _ _ rfl A (0) rfl (u8s ha) (((Has.refl _)).range hw.1) ((szH ha_ok))) ⟨A_18, D_18, I_18, trivial⟩ ?_
  simp only [Act.put, List.setIfInBounds_toArray, List.set_cons_zero, List.set_cons_succ]
  refine h_take 11 (.bool true) rfl 68 rfl (by kernel_rfl) (by kernel_rfl) (by kernel_rfl) (by kernel_rfl) (fun _ _ _ h => h) (fun w' _ => run_op_eqlV _ _ _ rfl ha ha ha_ok ha_ok rfl rfl true (by kernel_rfl) w') ⟨A_18, D_18, I_18, trivial⟩ ?_
  simp only [Act.put, List.setIfInBounds_toArray, List.set_cons_zero, List.set_cons_succ]
  refine h_take 12 (.bool true) rfl 69 rfl (by kernel_rfl) (by kernel_rfl) (by kernel_rfl) (by kernel_rfl) (fun _ _ _ h => h) (fun w' _ => by kernel_rfl) ⟨A_18, D_18, I_18, trivial⟩ ?_
  simp only [Act.put, List.setIfInBounds_toArray, List.set_cons_zero, List.set_cons_succ]
  refine h_take 13 (.bool true) rfl 70 rfl (by kernel_rfl) (by kernel_rfl) (by kernel_rfl) (by kernel_rfl) (fun _ _ _ h => h) (fun w' _ => by kernel_rfl) ⟨A_18, D_18, I_18, trivial⟩ ?_
  simp only [Act.put, List.setIfInBounds_toArray, List.set_cons_zero, List.set_cons_succ]
  refine h_take 14 (.bool true) rfl 71 rfl (by kernel_rfl) (by kernel_rfl) (by kernel_rfl) (by kernel_rfl) (fun _ _ _ h => h) (fun w' _ => by kernel_rfl) ⟨A_18, D_18, I_18, trivial⟩ ?_
  simp only [Act.put, List.setIfInBounds_toArray, List.set_cons_zero, List.set_cons_succ]
  refine h_take 15 (.bool true) rfl 72 rfl (by kernel_rfl) (by kernel_rfl) (by kernel_rfl) (by kernel_rfl) (fun _ _ _ h => h) (fun w' _ => by kernel_rfl) ⟨A_18, D_18, I_18, trivial⟩ ?_
  simp only [Act.put, List.setIfInBounds_toArray, List.set_cons_zero, List.set_cons_succ]
  refine h_take 16 (.bool true) rfl 73 rfl (by kernel_rfl) (by kernel_rfl) (by kernel_rfl) (by kernel_rfl) (fun _ _ _ h => h) (fun w' _ => by kernel_rfl) ⟨A_18, D_18, I_18, trivial⟩ ?_
  simp only [Act.put, List.setIfInBounds_toArray, List.set_cons_zero, List.set_cons_succ]
  refine h_take 17 (.bool false) rfl 74 rfl (by kernel_rfl) (by kernel_rfl) (by kernel_rfl) (by kernel_rfl) (fun _ _ _ h => h) (fun w' _ => by kernel_rfl) ⟨A_18, D_18, I_18, trivial⟩ ?_
  simp only [Act.put, List.setIfInBounds_toArray, List.set_cons_zero, List.set_cons_succ]
  refine h_take 18 (.bool true) rfl 75 rfl (by kernel_rfl) (by kernel_rfl) (by kernel_rfl) (by kernel_rfl) (fun _ _ _ h => h) (fun w' _ => by kernel_rfl) ⟨A_18, D_18, I_18, trivial⟩ ?_
  simp only [Act.put, List.setIfInBounds_toArray, List.set_cons_zero, List.set_cons_succ]
  refine h_take 19 (.bool true) rfl 76 rfl (by kernel_rfl) (by kernel_rfl) (by kernel_rfl) (by kernel_rfl) (fun _ _ _ h => h) (fun w' _ => by kernel_rfl) ⟨A_18, D_18, I_18, trivial⟩ ?_
  simp only [Act.put, List.setIfInBounds_toArray, List.set_cons_zero, List.set_cons_succ]
  refine h_take 20 (.bool true) rfl 77 rfl (by kernel_rfl) (by kernel_rfl) (by kernel_rfl) (by kernel_rfl) (fun _ _ _ h => h) (fun w' _ => by kernel_rfl) ⟨A_18, D_18, I_18, trivial⟩ ?_
  simp only [Act.put, List.setIfInBounds_toArray, List.set_cons_zero, List.set_cons_succ]
  refine h_take 21 (.bool false) rfl 78 rfl (by kernel_rfl) (by kernel_rfl) (by kernel_rfl) (by kernel_rfl) (fun _ _ _ h => h) (fun w' _ => by kernel_rfl) ⟨A_18, D_18, I_18, trivial⟩ ?_
  simp only [Act.put, List.setIfInBounds_toArray, List.set_cons_zero, List.set_cons_succ]
  refine h_take 22 (.bool true) rfl 79 rfl (by kernel_rfl) (by kernel_rfl) (by kernel_rfl) (by kernel_rfl) (fun _ _ _ h => h) (fun w' _ => by kernel_rfl) ⟨A_18, D_18, I_18, trivial⟩ ?_
  simp only [Act.put, List.setIfInBounds_toArray, List.set_cons_zero, List.set_cons_succ]
  refine h_take 23 (.bool true) rfl 80 rfl (by kernel_rfl) (by kernel_rfl) (by kernel_rfl) (by kernel_rfl) (fun _ _ _ h => h) (fun w' _ => by kernel_rfl) ⟨A_18, D_18, I_18, trivial⟩ ?_
  simp only [Act.put, List.setIfInBounds_toArray, List.set_cons_zero, List.set_cons_succ]
  refine h_take 24 (.bool true) rfl 81 rfl (by kernel_rfl) (by kernel_rfl) (by kernel_rfl) (by kernel_rfl) (fun _ _ _ h => h) (fun w' _ => by kernel_rfl) ⟨A_18, D_18, I_18, trivial⟩ ?_
  simp only [Act.put, List.setIfInBounds_toArray, List.set_cons_zero, List.set_cons_succ]
  refine h_take 25 (.bool true) rfl 82 rfl (by kernel_rfl) (by kernel_rfl) (by kernel_rfl) (by kernel_rfl) (fun _ _ _ h => h) (fun w' _ => by kernel_rfl) ⟨A_18, D_18, I_18, trivial⟩ ?_
  simp only [Act.put, List.setIfInBounds_toArray, List.set_cons_zero, List.set_cons_succ]
  refine h_take 26 (.bool true) rfl 83 rfl (by kernel_rfl) (by kernel_rfl) (by kernel_rfl) (by kernel_rfl) (fun _ _ _ h => h) (fun w' _ => by kernel_rfl) ⟨A_18, D_18, I_18, trivial⟩ ?_
  simp only [Act.put, List.setIfInBounds_toArray, List.set_cons_zero, List.set_cons_succ]
  refine h_take 27 (.bool true) rfl 84 rfl (by kernel_rfl) (by kernel_rfl) (by kernel_rfl) (by kernel_rfl) (fun _ _ _ h => h) (fun w' _ => by kernel_rfl) ⟨A_18, D_18, I_18, trivial⟩ ?_
  simp only [Act.put, List.setIfInBounds_toArray, List.set_cons_zero, List.set_cons_succ]
  refine h_take 28 (.pointer (some ⟨B, 0, none⟩)) rfl 85 rfl (by kernel_rfl) (by kernel_rfl) (by kernel_rfl) (by kernel_rfl) (fun _ _ _ h => h) (fun w' _ => by kernel_rfl) ⟨A_18, D_18, I_18, trivial⟩ ?_
  simp only [Act.put, List.setIfInBounds_toArray, List.set_cons_zero, List.set_cons_succ]
  refine h_one (i := 29) (by kernel_rfl) (o_call rfl 86 rfl (by kernel_rfl) (run_op_call 13 _ _ rfl #[.pointer (some ⟨B, 0, none⟩)] (by simp only [List.map_toArray, List.map_cons, List.map_nil]; rfl) Try.func13 (by kernel_rfl) (by kernel_rfl) _) (len_any _ B 1 [(hb, false)] _ V_18) ?_)
  rintro e _ ⟨rfl, rfl⟩
  refine ⟨_, rfl, ⟨A_18, D_18, I_18, trivial⟩, ?_⟩
  simp only [Act.put, List.setIfInBounds_toArray, List.set_cons_zero, List.set_cons_succ]
  refine h_take 30 (.bool true) rfl 87 rfl (by kernel_rfl) (by kernel_rfl) (by kernel_rfl) (by kernel_rfl) (fun _ _ _ h => h) (fun w' _ => cmp_eql _ _ .i64 (by kernel_rfl) _ _ rfl .i64 (1 : Int) (1 : Int) rfl rfl true rfl w') ⟨A_18, D_18, I_18, trivial⟩ ?_
  simp only [Act.put, List.setIfInBounds_toArray, List.set_cons_zero, List.set_cons_succ]
  refine h_take 31 (.bool true) rfl 88 rfl (by kernel_rfl) (by kernel_rfl) (by kernel_rfl) (by kernel_rfl) (fun _ _ _ h => h) (fun w' _ => by kernel_rfl) ⟨A_18, D_18, I_18, trivial⟩ ?_
  simp only [Act.put, List.setIfInBounds_toArray, List.set_cons_zero, List.set_cons_succ]
  refine h_take 32 (.bool true) rfl 89 rfl (by kernel_rfl) (by kernel_rfl) (by kernel_rfl) (by kernel_rfl) (fun _ _ _ h => h) (fun w' _ => by kernel_rfl) ⟨A_18, D_18, I_18, trivial⟩ ?_
  simp only [Act.put, List.setIfInBounds_toArray, List.set_cons_zero, List.set_cons_succ]
  refine h_take 33 (.pointer (some ⟨B, 0, none⟩)) rfl 90 rfl (by kernel_rfl) (by kernel_rfl) (by kernel_rfl) (by kernel_rfl) (fun _ _ _ h => h) (fun w' _ => by kernel_rfl) ⟨A_18, D_18, I_18, trivial⟩ ?_
  simp only [Act.put, List.setIfInBounds_toArray, List.set_cons_zero, List.set_cons_succ]
  refine h_take 35 (.agg (u8s hb).toArray) rfl 92 rfl (by kernel_rfl) (by kernel_rfl) (by kernel_rfl) (by kernel_rfl) (fun _ _ _ h => h) (fun w' hw => run_op_load _ _ rfl D (0) rfl (u8s hb) (((Has.refl _)).range hw.2.1) ((szH hb_ok))) ⟨A_18, D_18, I_18, trivial⟩ ?_
  simp only [Act.put, List.setIfInBounds_toArray, List.set_cons_zero, List.set_cons_succ]
  refine h_two (i := 34) (j := 36) (by kernel_rfl) ?_ ?_
  · skip
    refine (o_call rfl 91 rfl (by kernel_rfl) (run_op_call 15 _ _ rfl #[.pointer (some ⟨B, 0, none⟩)] (by simp only [List.map_toArray, List.map_cons, List.map_nil]; rfl) Try.func15 (by kernel_rfl) (by kernel_rfl) _) (known_any _ B 1 [(hb, false)] _ V_18 (by decide)) ?_)
    rintro e y19 ⟨⟨q, cq, rfl, hq⟩, hB⟩
    have V_20 : CAt y19 F2 B 1 ([(hb, false)]) := V_18.old hB
    have A_20 : Row y19 A 32 (u8s ha) := A_18.old hB
    have D_20 : Row y19 D 32 (u8s hb) := D_18.old hB
    have G_20 : Row y19 G 32 (u8s zh) := G_18.old hB
    have I_20 : Row y19 I 32 (u8s ha) := I_18.old hB
    have bel_20 : Chg (fun _ => False) w y19 := bel_18.old hB
    clear V_18 A_18 D_18 G_18 I_18 bel_18 hB
    refine ⟨_, rfl, ⟨A_20, D_20, I_20, trivial⟩, ?_⟩
    simp only [Act.put, List.setIfInBounds_toArray, List.set_cons_zero, List.set_cons_succ]
    have hq0 := hq.low (Nat.zero_le _)
    refine h_one (i := 36) (by kernel_rfl) (o_value _ rfl 93 rfl (by kernel_rfl) (Sl.run_op_lit fH [hb] (Sl.allOk_cons hb_ok Sl.allOk_nil) (by simp) 1 _ rfl rfl (by simp only [List.map_toArray, List.map_cons, List.map_nil]; rfl)) ?_)
    have hNy21 := (new_alloc y19 (.cells (Sl.Kind.all kH [hb]).toArray 32)).below
    have rNy21 : Row (y19.alloc (.cells (Sl.Kind.all kH [hb]).toArray 32)) y19.heap.size 32 (Sl.Kind.all kH [hb]) := heap_alloc_new _ _
    have geN : w.heap.size ≤ y19.heap.size := bel_20.size
    generalize y19.alloc (.cells (Sl.Kind.all kH [hb]).toArray 32) = y21 at hNy21 rNy21 ⊢
    have V_22 : CAt y21 F2 B 1 ([(hb, false)]) := V_20.old hNy21
    have A_22 : Row y21 A 32 (u8s ha) := A_20.old hNy21
    have D_22 : Row y21 D 32 (u8s hb) := D_20.old hNy21
    have G_22 : Row y21 G 32 (u8s zh) := G_20.old hNy21
    have I_22 : Row y21 I 32 (u8s ha) := I_20.old hNy21
    have Q_22 : Own kH y21 0 q cq (keys [(hb, false)]) := hq0.below hNy21
    have bel_22 : Chg (fun _ => False) w y21 := bel_20.old hNy21
    clear V_20 A_20 D_20 G_20 I_20 hq0 bel_20 hNy21
    generalize y19.heap.size = N at rNy21 geN  ⊢
    refine ⟨⟨A_22, D_22, I_22, trivial⟩, ?_⟩
    simp only [Act.put, List.setIfInBounds_toArray, List.set_cons_zero, List.set_cons_succ]
    have atN : At kH y21 (some ⟨N, 0, none⟩) [hb] := Sl.At.row (c := []) fH (Sl.allOk_cons hb_ok Sl.allOk_nil) rNy21 (List.append_nil _).symm
    refine h_one (i := 37) (by kernel_rfl) (o_call rfl 94 rfl (by kernel_rfl) (run_op_call 14 _ _ rfl #[.slice q (keys [(hb, false)]).length cq, .slice (some ⟨N, 0, none⟩) [hb].length 1] (by simp only [List.map_toArray, List.map_cons, List.map_nil]; rfl) Try.func14 (by kernel_rfl) (by kernel_rfl) _) (same_any (keys [(hb, false)]) [hb] q (some ⟨N, 0, none⟩) cq 1 _ (Q_22.at fH) atN (by simp [keys])) ?_)
    rintro e y23 ⟨rfl, hB⟩
    have V_24 : CAt y23 F2 B 1 ([(hb, false)]) := V_22.old hB
    have A_24 : Row y23 A 32 (u8s ha) := A_22.old hB
    have D_24 : Row y23 D 32 (u8s hb) := D_22.old hB
    have G_24 : Row y23 G 32 (u8s zh) := G_22.old hB
    have I_24 : Row y23 I 32 (u8s ha) := I_22.old hB
    have Q_24 : Own kH y23 0 q cq (keys [(hb, false)]) := Q_22.below hB
    have N_24 : Row y23 N 32 (Sl.Kind.all kH [hb]) := rNy21.old hB
    have bel_24 : Chg (fun _ => False) w y23 := bel_22.old hB
    clear V_22 A_22 D_22 G_22 I_22 Q_22 rNy21 bel_22 hB
    refine ⟨_, rfl, ⟨A_24, D_24, I_24, trivial⟩, ?_⟩
    simp only [Act.put, List.setIfInBounds_toArray, List.set_cons_zero, List.set_cons_succ]
    rw [show decide (keys [(hb, false)] = [hb]) = true by kernel_rfl]
    refine h_take 38 (.bool true) rfl 95 rfl (by kernel_rfl) (by kernel_rfl) (by kernel_rfl) (by kernel_rfl) (fun _ _ _ h => h) (fun w' _ => by kernel_rfl) ⟨A_24, D_24, I_24, trivial⟩ ?_
    simp only [Act.put, List.setIfInBounds_toArray, List.set_cons_zero, List.set_cons_succ]
    refine h_take 39 (.bool true) rfl 0 rfl (by kernel_rfl) (by kernel_rfl) (by kernel_rfl) (by kernel_rfl) (fun _ _ _ h => h) (fun w' _ => by kernel_rfl) ⟨A_24, D_24, I_24, trivial⟩ ?_
    simp only [Act.put, List.setIfInBounds_toArray, List.set_cons_zero, List.set_cons_succ]
    refine wpAnyH_done (by kernel_rfl) ?_ _
    go_wp2_with fail
    go_ret
    exact ⟨rfl, bel_24.below (fun k hk => hk.elim) (Nat.le_refl _)⟩
  · skip
    refine (o_value _ rfl 93 rfl (by kernel_rfl) (Sl.run_op_lit fH [hb] (Sl.allOk_cons hb_ok Sl.allOk_nil) (by simp) 1 _ rfl rfl (by simp only [List.map_toArray, List.map_cons, List.map_nil]; rfl)) ?_)
    have hNy19 := (new_alloc yz17 (.cells (Sl.Kind.all kH [hb]).toArray 32)).below
    have rNy19 : Row (yz17.alloc (.cells (Sl.Kind.all kH [hb]).toArray 32)) yz17.heap.size 32 (Sl.Kind.all kH [hb]) := heap_alloc_new _ _
    have geN : w.heap.size ≤ yz17.heap.size := bel_18.size
    generalize yz17.alloc (.cells (Sl.Kind.all kH [hb]).toArray 32) = y19 at hNy19 rNy19 ⊢
    have V_20 : CAt y19 F2 B 1 ([(hb, false)]) := V_18.old hNy19
    have A_20 : Row y19 A 32 (u8s ha) := A_18.old hNy19
    have D_20 : Row y19 D 32 (u8s hb) := D_18.old hNy19
    have G_20 : Row y19 G 32 (u8s zh) := G_18.old hNy19
    have I_20 : Row y19 I 32 (u8s ha) := I_18.old hNy19
    have bel_20 : Chg (fun _ => False) w y19 := bel_18.old hNy19
    clear V_18 A_18 D_18 G_18 I_18 bel_18 hNy19
    generalize yz17.heap.size = N at rNy19 geN  ⊢
    refine ⟨⟨A_20, D_20, I_20, trivial⟩, ?_⟩
    simp only [Act.put, List.setIfInBounds_toArray, List.set_cons_zero, List.set_cons_succ]
    refine h_one (i := 34) (by kernel_rfl) (o_call rfl 91 rfl (by kernel_rfl) (run_op_call 15 _ _ rfl #[.pointer (some ⟨B, 0, none⟩)] (by simp only [List.map_toArray, List.map_cons, List.map_nil]; rfl) Try.func15 (by kernel_rfl) (by kernel_rfl) _) (known_any _ B 1 [(hb, false)] _ V_20 (by decide)) ?_)
    rintro e y21 ⟨⟨q, cq, rfl, hq⟩, hB⟩
    have V_22 : CAt y21 F2 B 1 ([(hb, false)]) := V_20.old hB
    have A_22 : Row y21 A 32 (u8s ha) := A_20.old hB
    have D_22 : Row y21 D 32 (u8s hb) := D_20.old hB
    have G_22 : Row y21 G 32 (u8s zh) := G_20.old hB
    have I_22 : Row y21 I 32 (u8s ha) := I_20.old hB
    have N_22 : Row y21 N 32 (Sl.Kind.all kH [hb]) := rNy19.old hB
    have bel_22 : Chg (fun _ => False) w y21 := bel_20.old hB
    clear V_20 A_20 D_20 G_20 I_20 rNy19 bel_20 hB
    refine ⟨_, rfl, ⟨A_22, D_22, I_22, trivial⟩, ?_⟩
    simp only [Act.put, List.setIfInBounds_toArray, List.set_cons_zero, List.set_cons_succ]
    have hq0 := hq.low (Nat.zero_le _)
    have atN : At kH y21 (some ⟨N, 0, none⟩) [hb] := Sl.At.row (c := []) fH (Sl.allOk_cons hb_ok Sl.allOk_nil) N_22 (List.append_nil _).symm
    refine h_one (i := 37) (by kernel_rfl) (o_call rfl 94 rfl (by kernel_rfl) (run_op_call 14 _ _ rfl #[.slice q (keys [(hb, false)]).length cq, .slice (some ⟨N, 0, none⟩) [hb].length 1] (by simp only [List.map_toArray, List.map_cons, List.map_nil]; rfl) Try.func14 (by kernel_rfl) (by kernel_rfl) _) (same_any (keys [(hb, false)]) [hb] q (some ⟨N, 0, none⟩) cq 1 _ (hq0.at fH) atN (by simp [keys])) ?_)
    rintro e y23 ⟨rfl, hB⟩
    have V_24 : CAt y23 F2 B 1 ([(hb, false)]) := V_22.old hB
    have A_24 : Row y23 A 32 (u8s ha) := A_22.old hB
    have D_24 : Row y23 D 32 (u8s hb) := D_22.old hB
    have G_24 : Row y23 G 32 (u8s zh) := G_22.old hB
    have I_24 : Row y23 I 32 (u8s ha) := I_22.old hB
    have N_24 : Row y23 N 32 (Sl.Kind.all kH [hb]) := N_22.old hB
    have Q_24 : Own kH y23 0 q cq (keys [(hb, false)]) := hq0.below hB
    have bel_24 : Chg (fun _ => False) w y23 := bel_22.old hB
    clear V_22 A_22 D_22 G_22 I_22 N_22 hq0 bel_22 hB
    refine ⟨_, rfl, ⟨A_24, D_24, I_24, trivial⟩, ?_⟩
    simp only [Act.put, List.setIfInBounds_toArray, List.set_cons_zero, List.set_cons_succ]
    rw [show decide (keys [(hb, false)] = [hb]) = true by kernel_rfl]
    refine h_take 38 (.bool true) rfl 95 rfl (by kernel_rfl) (by kernel_rfl) (by kernel_rfl) (by kernel_rfl) (fun _ _ _ h => h) (fun w' _ => by kernel_rfl) ⟨A_24, D_24, I_24, trivial⟩ ?_
    simp only [Act.put, List.setIfInBounds_toArray, List.set_cons_zero, List.set_cons_succ]
    refine h_take 39 (.bool true) rfl 0 rfl (by kernel_rfl) (by kernel_rfl) (by kernel_rfl) (by kernel_rfl) (fun _ _ _ h => h) (fun w' _ => by kernel_rfl) ⟨A_24, D_24, I_24, trivial⟩ ?_
    simp only [Act.put, List.setIfInBounds_toArray, List.set_cons_zero, List.set_cons_succ]
    refine wpAnyH_done (by kernel_rfl) ?_ _
    go_wp2_with fail
    go_ret
    exact ⟨rfl, bel_24.below (fun k hk => hk.elim) (Nat.le_refl _)⟩
end Go.Proofs.Ytbpghogdjpobnaa.Vd
