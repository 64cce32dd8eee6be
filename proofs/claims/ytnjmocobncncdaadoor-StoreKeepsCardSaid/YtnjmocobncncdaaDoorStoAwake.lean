/-
  The contract of layer 19's awake. Over this seat's translation.
-/
import Derived.Test.YtnjmocobncncdaaDoorStoDo
namespace Go.Proofs.YtnjmocobncncdaaDoor.So
open Go.ChangeShapes Go.WideShapes Go.ChangeAt Go.RowKit Go.Proofs.YtnjmocobncncdaaDoor.Mem Go.Proofs.YtnjmocobncncdaaDoor.Bt Go.Proofs.YtnjmocobncncdaaDoor.Km
open Go.Proofs.YtnjmocobncncdaaDoor.Ep (H32 zh zh_ok Has h_len szH zH fitH allH one_app num32)
open Go.Proofs.YtnjmocobncncdaaDoor.Sl (Kind At bk)
open Go.Proofs.YtnjmocobncncdaaDoor.Sha (ks)
open Go.Proofs.YtnjmocobncncdaaDoor.Sa (Sta scs digS digS_ok zs zs_ok z_sta sz_sta scs_one fitS allS h_drw h_lngth)
open Go.Proofs.YtnjmocobncncdaaDoor.Od (Ky kcs keyN keyN_ok kcs_len kcs_one kcmp kval zk z_key sz_key fitK allK built_key compare_anyD)
set_option linter.unusedVariables false
set_option linter.unusedSimpArgs false

theorem run_eqPN {P : Program} {t e : TypeId} (hu : P.underlying t = some (.pointer e)) (p : Option Addr) (d : Nat) (w : World) : (Op.equalIn (d + 1) t (.pointer p) (.pointer none)).run P w = .ok p.isNone w := by
  cases p <;> simp [Op.equalIn, run_underlying hu]
theorem run_op_eqlP' {P : Program} {o : Oper} {a : Act} (t t' e : TypeId) (hu : P.underlying t = some (.pointer e)) (x y : Operand) (ho : o.op = .binOp .eql t x y t') (p : Option Addr) (hx : a.eval x = .pointer p) (hy : a.eval y = .pointer none) (b : Bool) (hb : p.isNone = b) (w : World) : (execOp a.eval o).run P w = .ok (.value (.bool b)) w := by
  subst hb
  have e1 : (Op.equal t (.pointer p) (.pointer none)).run P w = .ok p.isNone w := run_eqPN hu p 9999 w
  unfold execOp
  simp [ho, hx, hy, eqGuard, binOp, e1, Result.andThen]
theorem run_op_neqW {o : Oper} {a : Act} (x y : Operand) (t' : TypeId) (ho : o.op = .binOp .neq 29 x y t') (xs ys : List Nat) (hlx : H32 xs) (hly : H32 ys) (hx : a.eval x = .agg (u8s xs).toArray) (hy : a.eval y = .agg (u8s ys).toArray) (b : Bool) (hb : (!decide (xs = ys)) = b) (w : World) : (execOp a.eval o).run Tryd.prog w = .ok (.value (.bool b)) w := by
  subst hb
  exact Sha.run_op_neq2 x y t' ho xs ys hlx.len hly.len hx hy w
section
variable {F : Nat → Prop} {S r : Nat} {pin : Option (List Nat)} {L : List Sta} {w : World}
theorem put_to {M : List Sta} {g : Option Sta} {d : List Nat} {v : Bool} (x : Sta) (hP : PAt w F S r pin L) (kx : x.Ok) (hr : r ≤ 100) (hk : w.rangeAt 0 0 (u32s ks)) (e : putL r pin x L = (M, g)) (e2 : (g.map digS).getD zh = d) (e3 : g.isSome = v) :
    Calls Tryd.prog 12 #[.pointer (some ⟨S, 0, none⟩), .agg (scs x).toArray] w fun e w' => e = .returned (.tuple #[.agg (u8s d).toArray, .bool v]) ∧ (∃ F', PAt w' F' S r pin M ∧ Grew F F' w.heap.size) ∧ Chg F w w' := by
  subst e2 e3
  exact (pput_any x hP kx hr hk).mono fun e' w' q => ⟨by rw [q.ret, e], by have := q.at_; rw [e] at this; exact this, q.chg⟩
theorem keep_to {M : List Sta} {g : Option Sta} {d : List Nat} {v : Bool} (x : Sta) (hP : PAt w F S r pin L) (kx : x.Ok) (hr : r ≤ 100) (hk : w.rangeAt 0 0 (u32s ks)) (e : putL r (some (digS x)) x L = (M, g)) (e2 : (g.map digS).getD zh = d) (e3 : g.isSome = v) :
    Calls Tryd.prog 9 #[.pointer (some ⟨S, 0, none⟩), .agg (scs x).toArray] w fun e w' => e = .returned (.tuple #[.agg (u8s d).toArray, .bool v]) ∧ (∃ F', PAt w' F' S r (some (digS x)) M ∧ Grew F F' w.heap.size) ∧ Chg F w w' := by
  subst e2 e3
  exact (pkeep_any x hP kx hr hk).mono fun e' w' q => ⟨by rw [q.ret, e], by have := q.at_; rw [e] at this; exact this, q.chg⟩
theorem get_to {h : List Nat} {x : Sta} {v : Bool} (hh : H32 h) (hP : PAt w F S r pin L) (e1 : (getS L h).getD zs = x) (e2 : hasB h L = v) :
    Calls Tryd.prog 11 #[.pointer (some ⟨S, 0, none⟩), .agg (u8s h).toArray] w fun e w' => e = .returned (.tuple #[.agg (scs x).toArray, .bool v]) ∧ Below w.heap.size w w' := by
  subst e1 e2
  exact pget_any h hh hP
theorem pin_to {h : List Nat} {v : Bool} {q : Option (List Nat)} (hh : H32 h) (hP : PAt w F S r pin L) (e1 : hasB h L = v) (e2 : (if v = true then some h else pin) = q) :
    Calls Tryd.prog 8 #[.pointer (some ⟨S, 0, none⟩), .agg (u8s h).toArray] w fun e w' => e = .returned (.bool v) ∧ (∃ F', PAt w' F' S r q L ∧ Grew F F' w.heap.size) ∧ Chg F w w' := by
  subst e2 e1
  exact (ppin_any h hh hP).mono fun e w' q => ⟨q.1, ⟨F, q.2.1, Grew.refl _ _⟩, q.2.2⟩
theorem pinned_to {h : List Nat} {v : Bool} (hP : PAt w F S r pin L) (e1 : pin.getD zh = h) (e2 : pin.isSome = v) :
    Calls Tryd.prog 10 #[.pointer (some ⟨S, 0, none⟩)] w fun e w' => e = .returned (.tuple #[.agg (u8s h).toArray, .bool v]) ∧ Below w.heap.size w w' := by
  subst e1 e2
  exact ppinned_any hP
theorem len_to {n : Nat} (hP : PAt w F S r pin L) (e : L.length = n) : Calls Tryd.prog 14 #[.pointer (some ⟨S, 0, none⟩)] w fun e w' => e = .returned (.int .i64 (n : Int)) ∧ w = w' := by
  subst e
  exact plen_any hP
end
theorem built_stL : ∀ n : Nat, Tryd.prog.built 41 [(4, .int .u32 (n : Int))] = some (scs (stL n)).toArray := fun n => by kernel_rfl
set_option maxHeartbeats 4000000 in
set_option maxRecDepth 100000 in
theorem awake_any (w : World) (hk : w.rangeAt 0 0 (u32s ks)) :
    Calls Tryd.prog 5 #[] w fun e w' => e = .returned (.bool true) ∧ Below w.heap.size w w' := by
  have hk1 : 0 < w.heap.size := range_lt hk (by simp [u32s, ks])
  have HKW : Hid (∀ w', Below w.heap.size w w' → w'.rangeAt 0 0 (u32s ks)) := Lib.hid fun w' hb => range_block hk (hb.block _ hk1)
  have CN := Lib.hid (snew_any 2 w)
  have CH := Lib.hid (fun x kx w0 h => Sa.shash_any x w0 kx h)
  have K5 := Lib.hid (stL_ok (n := 5) (by decide)); have K6 := Lib.hid (stL_ok (n := 6) (by decide)); have K4 := Lib.hid (stL_ok (n := 4) (by decide)); have K1 := Lib.hid (stL_ok (n := 1) (by decide))
  have D5 := Lib.hid (digS_ok (stL 5)); have D4 := Lib.hid (digS_ok (stL 4)); have D1 := Lib.hid (digS_ok (stL 1))
  clear hk hk1
  go_enter Tryd.func5, Tryd.ntmps5
  have bel0 : Chg (fun _ => False) w w := Chg.refl _ _
  go_wp2_with fail
  refine CN.out.mono ?_
  rintro e y0 ⟨(⟨_, _, S, F0, rfl, hV, fr0⟩ | ⟨hN, rfl⟩), hB⟩
  case inr => exact absurd ⟨by decide, by decide⟩ hN
  rw [show (2 : Int).toNat = 2 from rfl] at hV
  have bel_1 : Chg (fun _ => False) w y0 := bel0.old hB
  clear bel0 hB
  go_wp2_with (first
    | ((with_reducible refine at_slot 25 ?_); (refine arm_want (.bool false) 25 rfl (by kernel_rfl) (run_op_eqlP' _ _ _ (by kernel_rfl) _ _ rfl (some _) rfl rfl false rfl _) ?_); try simp only [Act.put, List.setIfInBounds_toArray, List.set_cons_zero, List.set_cons_succ])
    | ((with_reducible refine at_slot 30 ?_); (refine arm_build (o := ⟨some 30, _, _, _, _, _⟩) rfl _ _ rfl (scs (stL 5)) (by simp only [List.map_toArray, List.map_cons, List.map_nil]; exact built_stL 5) ?_); try simp only [Act.put, List.setIfInBounds_toArray, List.set_cons_zero, List.set_cons_succ])
    | ((with_reducible refine at_slot 31 ?_); (refine arm_build (o := ⟨some 31, _, _, _, _, _⟩) rfl _ _ rfl (scs (stL 6)) (by simp only [List.map_toArray, List.map_cons, List.map_nil]; exact built_stL 6) ?_); try simp only [Act.put, List.setIfInBounds_toArray, List.set_cons_zero, List.set_cons_succ])
    | ((with_reducible refine at_slot 32 ?_); (refine arm_build (o := ⟨some 32, _, _, _, _, _⟩) rfl _ _ rfl (scs (stL 4)) (by simp only [List.map_toArray, List.map_cons, List.map_nil]; exact built_stL 4) ?_); try simp only [Act.put, List.setIfInBounds_toArray, List.set_cons_zero, List.set_cons_succ])
    | ((with_reducible refine at_slot 3 ?_); (refine fpause ?_); try simp only [Act.put, List.setIfInBounds_toArray, List.set_cons_zero, List.set_cons_succ]))
  refine fgo ?_
  have hVl := Lib.hid hV.lies
  go_wp2_with (first
    | ((with_reducible refine at_slot 3 ?_); (refine arm_alloc (o := ⟨some 3, _, _, _, _, _⟩) rfl _ rfl (scs zs) z_sta ?_); intro A vA Ae hvA nvA; try simp only [Act.put, List.setIfInBounds_toArray, List.set_cons_zero, List.set_cons_succ])
    | ((with_reducible refine at_slot 4 ?_); (refine arm_alloc (o := ⟨some 4, _, _, _, _, _⟩) rfl _ rfl (scs zs) z_sta ?_); intro B vB Be hvB nvB; try simp only [Act.put, List.setIfInBounds_toArray, List.set_cons_zero, List.set_cons_succ])
    | ((with_reducible refine at_slot 5 ?_); (refine arm_alloc (o := ⟨some 5, _, _, _, _, _⟩) rfl _ rfl (scs zs) z_sta ?_); intro C vC Ce hvC nvC; try simp only [Act.put, List.setIfInBounds_toArray, List.set_cons_zero, List.set_cons_succ])
    | ((with_reducible refine arm_store (o := ⟨none, _, _, _, _, _⟩) rfl _ _ _ rfl A 0 rfl (scs (stL 5)) rfl _ _ ((hvA.old nvB.below).old nvC.below) (fitS K5.out) (scs_one _) (sz_sta K5.out) ?_); intro xA hxA oxA sxA; try simp only [Act.put, List.setIfInBounds_toArray, List.set_cons_zero, List.set_cons_succ])
    | ((with_reducible refine arm_store (o := ⟨none, _, _, _, _, _⟩) rfl _ _ _ rfl B 0 rfl (scs (stL 6)) rfl _ _ ((hvB.old nvC.below).only oxA (by have := Ae.out; have := Be.out; have := nvA.size; omega)) (fitS K6.out) (scs_one _) (sz_sta K6.out) ?_); intro xB hxB oxB sxB; try simp only [Act.put, List.setIfInBounds_toArray, List.set_cons_zero, List.set_cons_succ])
    | ((with_reducible refine arm_store (o := ⟨none, _, _, _, _, _⟩) rfl _ _ _ rfl C 0 rfl (scs (stL 4)) rfl _ _ ((hvC.only oxA (by have := Ae.out; have := Ce.out; have := nvA.size; have := nvB.size; omega)).only oxB (by have := Be.out; have := Ce.out; have := nvB.size; omega)) (fitS K4.out) (scs_one _) (sz_sta K4.out) ?_); intro xC hxC oxC sxC; try simp only [Act.put, List.setIfInBounds_toArray, List.set_cons_zero, List.set_cons_succ]; refine fpause ?_; try simp only [Act.put, List.setIfInBounds_toArray, List.set_cons_zero, List.set_cons_succ]))
  have q1 := Ae.out; have q2 := Be.out; have q3 := Ce.out; have q4 := nvA.size; have q5 := nvB.size; have q6 := nvC.size
  have rA : Row xC A 41 (scs (stL 5)) := ((hxA.congr (allS K5.out)).only oxB (by omega)).only oxC (by omega)
  have rB : Row xC B 41 (scs (stL 6)) := (hxB.congr (allS K6.out)).only oxC (by omega)
  have rC : Row xC C 41 (scs (stL 4)) := hxC.congr (allS K4.out)
  have e0 : Below y0.heap.size y0 vC := below_step (below_step nvA.below nvA.below.size nvB.below) (by omega) nvC.below
  have e1 := below_only e0 oxA (by omega) (by omega)
  have e2 := below_only e1 oxB (by omega) (by have := oxA.size; omega)
  have hBd : Below y0.heap.size y0 xC := below_only e2 oxC (by omega) (by have := oxA.size; have := oxB.size; omega)
  have nA : ¬ F0 A := fun q => by have := hVl.out A q; omega
  have nB : ¬ F0 B := fun q => by have := hVl.out B q; omega
  have nC : ¬ F0 C := fun q => by have := hVl.out C q; omega
  have geA : w.heap.size ≤ A := by have := bel_1.size; omega
  have geB : w.heap.size ≤ B := by have := bel_1.size; omega
  have geC : w.heap.size ≤ C := by have := bel_1.size; omega
  clear q1 q2 q3 q4 q5 q6 Ae Be Ce hvA hvB hvC nvA nvB nvC hxA oxA sxA hxB oxB sxB hxC oxC sxC hVl e0 e1 e2
  have V_2 : PAt xC F0 S 2 none ([]) := hV.old hBd
  have bel_2 : Chg (fun _ => False) w xC := bel_1.old hBd
  clear hV bel_1 hBd
  refine fgo ?_
  go_wp2_with (first
    | ((with_reducible refine at_slot 34 ?_); (refine arm_load (o := ⟨some 34, _, _, _, _, _⟩) rfl _ _ rfl A 0 rfl (scs (stL 5)) ((Has.refl _).range rA) (sz_sta K5.out) ?_); try simp only [Act.put, List.setIfInBounds_toArray, List.set_cons_zero, List.set_cons_succ]))
  refine (put_to (stL 5) V_2 K5.out (by decide) (HKW.out _ (bel_2.below (fun k hk => hk.elim) (Nat.le_refl _))) put1 rfl rfl).mono ?_
  rintro e yP3 ⟨rfl, ⟨F1, hV2, hG2⟩, hc⟩
  have mA := notF_grew nA hG2 rA.lt
  have mB := notF_grew nB hG2 rB.lt
  have mC := notF_grew nC hG2 rC.lt
  have fr1 := hG2.from fr0 bel_2.size
  have V_4 : PAt yP3 F1 S 2 none ([stL 5]) := hV2
  have A_4 : Row yP3 A 41 (scs (stL 5)) := rA.chg hc nA
  have B_4 : Row yP3 B 41 (scs (stL 6)) := rB.chg hc nB
  have C_4 : Row yP3 C 41 (scs (stL 4)) := rC.chg hc nC
  have bel_4 : Chg (fun _ => False) w yP3 := bel_2.fresh hc fr0
  clear V_2 rA rB rC bel_2 hc
  clear nA
  have nA := mA
  clear mA
  clear nB
  have nB := mB
  clear mB
  clear nC
  have nC := mC
  clear mC
  clear hG2
  go_wp2_with (first
    | ((with_reducible refine at_slot 38 ?_); (refine arm_load (o := ⟨some 38, _, _, _, _, _⟩) rfl _ _ rfl B 0 rfl (scs (stL 6)) ((Has.refl _).range B_4) (sz_sta K6.out) ?_); try simp only [Act.put, List.setIfInBounds_toArray, List.set_cons_zero, List.set_cons_succ]))
  refine (put_to (stL 6) V_4 K6.out (by decide) (HKW.out _ (bel_4.below (fun k hk => hk.elim) (Nat.le_refl _))) put2 rfl rfl).mono ?_
  rintro e yP5 ⟨rfl, ⟨F2, hV2, hG2⟩, hc⟩
  have mA := notF_grew nA hG2 A_4.lt
  have mB := notF_grew nB hG2 B_4.lt
  have mC := notF_grew nC hG2 C_4.lt
  have fr2 := hG2.from fr1 bel_4.size
  have V_6 : PAt yP5 F2 S 2 none ([stL 5, stL 6]) := hV2
  have A_6 : Row yP5 A 41 (scs (stL 5)) := A_4.chg hc nA
  have B_6 : Row yP5 B 41 (scs (stL 6)) := B_4.chg hc nB
  have C_6 : Row yP5 C 41 (scs (stL 4)) := C_4.chg hc nC
  have bel_6 : Chg (fun _ => False) w yP5 := bel_4.fresh hc fr1
  clear V_4 A_4 B_4 C_4 bel_4 hc
  clear nA
  have nA := mA
  clear mA
  clear nB
  have nB := mB
  clear mB
  clear nC
  have nC := mC
  clear mC
  clear hG2
  have l2 := Lib.hid V_6.lies
  go_wp2_with (first
    | ((with_reducible refine at_slot 6 ?_); (refine arm_alloc (o := ⟨some 6, _, _, _, _, _⟩) rfl _ rfl (u8s zh) zH ?_); intro G v7a Ge hGa nG; try simp only [Act.put, List.setIfInBounds_toArray, List.set_cons_zero, List.set_cons_succ])
    | ((with_reducible refine arm_store (o := ⟨none, _, _, _, _, _⟩) rfl _ _ _ rfl G 0 rfl (u8s zh) rfl _ _ hGa (fitH zh_ok) (u8s_one _) (szH zh_ok) ?_); intro v7 hGb oG sG; try simp only [Act.put, List.setIfInBounds_toArray, List.set_cons_zero, List.set_cons_succ])
    | ((with_reducible refine at_slot 44 ?_); (refine arm_load (o := ⟨some 44, _, _, _, _, _⟩) rfl _ _ rfl C 0 rfl (scs (stL 4)) ((Has.refl _).range ((C_6.old nG.below).only oG (by have := Ge.out; have := C_6.lt; omega))) (sz_sta K4.out) ?_); try simp only [Act.put, List.setIfInBounds_toArray, List.set_cons_zero, List.set_cons_succ]))
  have lG : yP5.heap.size ≤ G := by have := Ge.out; omega
  have bG : Below yP5.heap.size yP5 v7 := below_only nG.below oG lG nG.below.size
  have rrG : Row v7 G 29 (u8s zh) := hGb.congr (allH zh_ok)
  have geG : w.heap.size ≤ G := Nat.le_trans bel_6.size lG
  have lGx := lG
  clear hGa hGb nG oG sG Ge lG
  have V_8 : PAt v7 F2 S 2 none ([stL 5, stL 6]) := V_6.old bG
  have A_8 : Row v7 A 41 (scs (stL 5)) := A_6.old bG
  have B_8 : Row v7 B 41 (scs (stL 6)) := B_6.old bG
  have C_8 : Row v7 C 41 (scs (stL 4)) := C_6.old bG
  have bel_8 : Chg (fun _ => False) w v7 := bel_6.old bG
  clear V_6 A_6 B_6 C_6 bel_6 bG
  have nG : ¬ F2 G := fun q => by have := l2.out G q; omega
  clear l2
  refine (put_to (stL 4) V_8 K4.out (by decide) (HKW.out _ (bel_8.below (fun k hk => hk.elim) (Nat.le_refl _))) put3 rfl rfl).mono ?_
  rintro e yP9 ⟨rfl, ⟨F3, hV2, hG2⟩, hc⟩
  have mA := notF_grew nA hG2 A_8.lt
  have mB := notF_grew nB hG2 B_8.lt
  have mC := notF_grew nC hG2 C_8.lt
  have mG := notF_grew nG hG2 rrG.lt
  have fr3 := hG2.from fr2 bel_8.size
  have V_10 : PAt yP9 F3 S 2 none ([stL 5, stL 6]) := hV2
  have A_10 : Row yP9 A 41 (scs (stL 5)) := A_8.chg hc nA
  have B_10 : Row yP9 B 41 (scs (stL 6)) := B_8.chg hc nB
  have C_10 : Row yP9 C 41 (scs (stL 4)) := C_8.chg hc nC
  have G_10 : Row yP9 G 29 (u8s zh) := rrG.chg hc nG
  have bel_10 : Chg (fun _ => False) w yP9 := bel_8.fresh hc fr2
  clear V_8 A_8 B_8 C_8 rrG bel_8 hc
  clear nA
  have nA := mA
  clear mA
  clear nB
  have nB := mB
  clear mB
  clear nC
  have nC := mC
  clear mC
  clear nG
  have nG := mG
  clear mG
  clear hG2
  have l3 := Lib.hid V_10.lies
  go_wp2_with (first
    | ((with_reducible refine at_slot 8 ?_); (refine arm_alloc (o := ⟨some 8, _, _, _, _, _⟩) rfl _ rfl (u8s zh) zH ?_); intro I v11a Ie hIa nI; try simp only [Act.put, List.setIfInBounds_toArray, List.set_cons_zero, List.set_cons_succ])
    | ((with_reducible refine arm_store (o := ⟨none, _, _, _, _, _⟩) rfl _ _ _ rfl I 0 rfl (u8s (digS (stL 4))) rfl _ _ hIa (fitH D4.out) (u8s_one _) (szH D4.out) ?_); intro v11 hIb oI sI; try simp only [Act.put, List.setIfInBounds_toArray, List.set_cons_zero, List.set_cons_succ])
    | ((with_reducible refine at_slot 50 ?_); (refine arm_load (o := ⟨some 50, _, _, _, _, _⟩) rfl _ _ rfl A 0 rfl (scs (stL 5)) ((Has.refl _).range ((A_10.old nI.below).only oI (by have := Ie.out; have := A_10.lt; omega))) (sz_sta K5.out) ?_); try simp only [Act.put, List.setIfInBounds_toArray, List.set_cons_zero, List.set_cons_succ]))
  have lI : yP9.heap.size ≤ I := by have := Ie.out; omega
  have bI : Below yP9.heap.size yP9 v11 := below_only nI.below oI lI nI.below.size
  have rrI : Row v11 I 29 (u8s (digS (stL 4))) := hIb.congr (allH D4.out)
  have geI : w.heap.size ≤ I := Nat.le_trans bel_10.size lI
  have lIx := lI
  clear hIa hIb nI oI sI Ie lI
  have V_12 : PAt v11 F3 S 2 none ([stL 5, stL 6]) := V_10.old bI
  have A_12 : Row v11 A 41 (scs (stL 5)) := A_10.old bI
  have B_12 : Row v11 B 41 (scs (stL 6)) := B_10.old bI
  have C_12 : Row v11 C 41 (scs (stL 4)) := C_10.old bI
  have G_12 : Row v11 G 29 (u8s zh) := G_10.old bI
  have bel_12 : Chg (fun _ => False) w v11 := bel_10.old bI
  clear V_10 A_10 B_10 C_10 G_10 bel_10 bI
  have nI : ¬ F3 I := fun q => by have := l3.out I q; omega
  clear l3
  refine (CH.out (stL 5) K5.out _ (HKW.out _ (bel_12.below (fun k hk => hk.elim) (Nat.le_refl _)))).mono ?_
  rintro e y13 ⟨rfl, hB⟩
  have V_14 : PAt y13 F3 S 2 none ([stL 5, stL 6]) := V_12.old hB
  have A_14 : Row y13 A 41 (scs (stL 5)) := A_12.old hB
  have B_14 : Row y13 B 41 (scs (stL 6)) := B_12.old hB
  have C_14 : Row y13 C 41 (scs (stL 4)) := C_12.old hB
  have G_14 : Row y13 G 29 (u8s zh) := G_12.old hB
  have I_14 : Row y13 I 29 (u8s (digS (stL 4))) := rrI.old hB
  have bel_14 : Chg (fun _ => False) w y13 := bel_12.old hB
  clear V_12 A_12 B_12 C_12 G_12 rrI bel_12 hB
  go_wp2_with fail
  refine (get_to D5.out V_14 get5 has5).mono ?_
  rintro e y15 ⟨rfl, hB⟩
  have V_16 : PAt y15 F3 S 2 none ([stL 5, stL 6]) := V_14.old hB
  have A_16 : Row y15 A 41 (scs (stL 5)) := A_14.old hB
  have B_16 : Row y15 B 41 (scs (stL 6)) := B_14.old hB
  have C_16 : Row y15 C 41 (scs (stL 4)) := C_14.old hB
  have G_16 : Row y15 G 29 (u8s zh) := G_14.old hB
  have I_16 : Row y15 I 29 (u8s (digS (stL 4))) := I_14.old hB
  have bel_16 : Chg (fun _ => False) w y15 := bel_14.old hB
  clear V_14 A_14 B_14 C_14 G_14 I_14 bel_14 hB
  have l4 := Lib.hid V_16.lies
  go_wp2_with (first
    | ((with_reducible refine at_slot 10 ?_); (refine arm_alloc (o := ⟨some 10, _, _, _, _, _⟩) rfl _ rfl (scs zs) z_sta ?_); intro J v17a Je hJa nJ; try simp only [Act.put, List.setIfInBounds_toArray, List.set_cons_zero, List.set_cons_succ])
    | ((with_reducible refine arm_store (o := ⟨none, _, _, _, _, _⟩) rfl _ _ _ rfl J 0 rfl (scs (stL 5)) rfl _ _ hJa (fitS K5.out) (scs_one _) (sz_sta K5.out) ?_); intro v17 hJb oJ sJ; try simp only [Act.put, List.setIfInBounds_toArray, List.set_cons_zero, List.set_cons_succ])
    | ((with_reducible refine at_slot 56 ?_); (refine arm_load (o := ⟨some 56, _, _, _, _, _⟩) rfl _ _ rfl A 0 rfl (scs (stL 5)) ((Has.refl _).range ((A_16.old nJ.below).only oJ (by have := Je.out; have := A_16.lt; omega))) (sz_sta K5.out) ?_); try simp only [Act.put, List.setIfInBounds_toArray, List.set_cons_zero, List.set_cons_succ]))
  have lJ : y15.heap.size ≤ J := by have := Je.out; omega
  have bJ : Below y15.heap.size y15 v17 := below_only nJ.below oJ lJ nJ.below.size
  have rrJ : Row v17 J 41 (scs (stL 5)) := hJb.congr (allS K5.out)
  have geJ : w.heap.size ≤ J := Nat.le_trans bel_16.size lJ
  have lJx := lJ
  clear hJa hJb nJ oJ sJ Je lJ
  have V_18 : PAt v17 F3 S 2 none ([stL 5, stL 6]) := V_16.old bJ
  have A_18 : Row v17 A 41 (scs (stL 5)) := A_16.old bJ
  have B_18 : Row v17 B 41 (scs (stL 6)) := B_16.old bJ
  have C_18 : Row v17 C 41 (scs (stL 4)) := C_16.old bJ
  have G_18 : Row v17 G 29 (u8s zh) := G_16.old bJ
  have I_18 : Row v17 I 29 (u8s (digS (stL 4))) := I_16.old bJ
  have bel_18 : Chg (fun _ => False) w v17 := bel_16.old bJ
  clear V_16 A_16 B_16 C_16 G_16 I_16 bel_16 bJ
  have nJ : ¬ F3 J := fun q => by have := l4.out J q; omega
  clear l4
  refine (CH.out (stL 5) K5.out _ (HKW.out _ (bel_18.below (fun k hk => hk.elim) (Nat.le_refl _)))).mono ?_
  rintro e y19 ⟨rfl, hB⟩
  have V_20 : PAt y19 F3 S 2 none ([stL 5, stL 6]) := V_18.old hB
  have A_20 : Row y19 A 41 (scs (stL 5)) := A_18.old hB
  have B_20 : Row y19 B 41 (scs (stL 6)) := B_18.old hB
  have C_20 : Row y19 C 41 (scs (stL 4)) := C_18.old hB
  have G_20 : Row y19 G 29 (u8s zh) := G_18.old hB
  have I_20 : Row y19 I 29 (u8s (digS (stL 4))) := I_18.old hB
  have J_20 : Row y19 J 41 (scs (stL 5)) := rrJ.old hB
  have bel_20 : Chg (fun _ => False) w y19 := bel_18.old hB
  clear V_18 A_18 B_18 C_18 G_18 I_18 rrJ bel_18 hB
  go_wp2_with fail
  refine (pin_to (q := some (digS (stL 5))) D5.out V_20 has5 rfl).mono ?_
  rintro e yP21 ⟨rfl, ⟨F4, hV2, hG2⟩, hc⟩
  have mA := notF_grew nA hG2 A_20.lt
  have mB := notF_grew nB hG2 B_20.lt
  have mC := notF_grew nC hG2 C_20.lt
  have mG := notF_grew nG hG2 G_20.lt
  have mI := notF_grew nI hG2 I_20.lt
  have mJ := notF_grew nJ hG2 J_20.lt
  have fr4 := hG2.from fr3 bel_20.size
  have V_22 : PAt yP21 F4 S 2 (some (digS (stL 5))) ([stL 5, stL 6]) := hV2
  have A_22 : Row yP21 A 41 (scs (stL 5)) := A_20.chg hc nA
  have B_22 : Row yP21 B 41 (scs (stL 6)) := B_20.chg hc nB
  have C_22 : Row yP21 C 41 (scs (stL 4)) := C_20.chg hc nC
  have G_22 : Row yP21 G 29 (u8s zh) := G_20.chg hc nG
  have I_22 : Row yP21 I 29 (u8s (digS (stL 4))) := I_20.chg hc nI
  have J_22 : Row yP21 J 41 (scs (stL 5)) := J_20.chg hc nJ
  have bel_22 : Chg (fun _ => False) w yP21 := bel_20.fresh hc fr3
  clear V_20 A_20 B_20 C_20 G_20 I_20 J_20 bel_20 hc
  clear nA
  have nA := mA
  clear mA
  clear nB
  have nB := mB
  clear mB
  clear nC
  have nC := mC
  clear mC
  clear nG
  have nG := mG
  clear mG
  clear nI
  have nI := mI
  clear mI
  clear nJ
  have nJ := mJ
  clear mJ
  clear hG2
  go_wp2_with fail
  refine (pinned_to V_22 rfl rfl).mono ?_
  rintro e y23 ⟨rfl, hB⟩
  have V_24 : PAt y23 F4 S 2 (some (digS (stL 5))) ([stL 5, stL 6]) := V_22.old hB
  have A_24 : Row y23 A 41 (scs (stL 5)) := A_22.old hB
  have B_24 : Row y23 B 41 (scs (stL 6)) := B_22.old hB
  have C_24 : Row y23 C 41 (scs (stL 4)) := C_22.old hB
  have G_24 : Row y23 G 29 (u8s zh) := G_22.old hB
  have I_24 : Row y23 I 29 (u8s (digS (stL 4))) := I_22.old hB
  have J_24 : Row y23 J 41 (scs (stL 5)) := J_22.old hB
  have bel_24 : Chg (fun _ => False) w y23 := bel_22.old hB
  clear V_22 A_22 B_22 C_22 G_22 I_22 J_22 bel_22 hB
  have l5 := Lib.hid V_24.lies
  go_wp2_with (first
    | ((with_reducible refine at_slot 13 ?_); (refine arm_alloc (o := ⟨some 13, _, _, _, _, _⟩) rfl _ rfl (u8s zh) zH ?_); intro M v25a Me hMa nM; try simp only [Act.put, List.setIfInBounds_toArray, List.set_cons_zero, List.set_cons_succ])
    | ((with_reducible refine arm_store (o := ⟨none, _, _, _, _, _⟩) rfl _ _ _ rfl M 0 rfl (u8s (digS (stL 5))) rfl _ _ hMa (fitH D5.out) (u8s_one _) (szH D5.out) ?_); intro v25 hMb oM sM; try simp only [Act.put, List.setIfInBounds_toArray, List.set_cons_zero, List.set_cons_succ]; refine fpause ?_; try simp only [Act.put, List.setIfInBounds_toArray, List.set_cons_zero, List.set_cons_succ]))
  have lM : y23.heap.size ≤ M := by have := Me.out; omega
  have bM : Below y23.heap.size y23 v25 := below_only nM.below oM lM nM.below.size
  have rrM : Row v25 M 29 (u8s (digS (stL 5))) := hMb.congr (allH D5.out)
  have geM : w.heap.size ≤ M := Nat.le_trans bel_24.size lM
  have lMx := lM
  clear hMa hMb nM oM sM Me lM
  have V_26 : PAt v25 F4 S 2 (some (digS (stL 5))) ([stL 5, stL 6]) := V_24.old bM
  have A_26 : Row v25 A 41 (scs (stL 5)) := A_24.old bM
  have B_26 : Row v25 B 41 (scs (stL 6)) := B_24.old bM
  have C_26 : Row v25 C 41 (scs (stL 4)) := C_24.old bM
  have G_26 : Row v25 G 29 (u8s zh) := G_24.old bM
  have I_26 : Row v25 I 29 (u8s (digS (stL 4))) := I_24.old bM
  have J_26 : Row v25 J 41 (scs (stL 5)) := J_24.old bM
  have bel_26 : Chg (fun _ => False) w v25 := bel_24.old bM
  clear V_24 A_24 B_24 C_24 G_24 I_24 J_24 bel_24 bM
  refine fgo ?_
  have nM : ¬ F4 M := fun q => by have := l5.out M q; omega
  clear l5
  have l6 := Lib.hid V_26.lies
  go_wp2_with (first
    | ((with_reducible refine at_slot 64 ?_); (refine arm_build (o := ⟨some 64, _, _, _, _, _⟩) rfl _ _ rfl (scs (stL 1)) (by simp only [List.map_toArray, List.map_cons, List.map_nil]; exact built_stL 1) ?_); try simp only [Act.put, List.setIfInBounds_toArray, List.set_cons_zero, List.set_cons_succ])
    | ((with_reducible refine at_slot 15 ?_); (refine arm_alloc (o := ⟨some 15, _, _, _, _, _⟩) rfl _ rfl (scs zs) z_sta ?_); intro D v27a De hDa nD; try simp only [Act.put, List.setIfInBounds_toArray, List.set_cons_zero, List.set_cons_succ])
    | ((with_reducible refine arm_store (o := ⟨none, _, _, _, _, _⟩) rfl _ _ _ rfl D 0 rfl (scs (stL 1)) rfl _ _ hDa (fitS K1.out) (scs_one _) (sz_sta K1.out) ?_); intro v27 hDb oD sD; try simp only [Act.put, List.setIfInBounds_toArray, List.set_cons_zero, List.set_cons_succ])
    | ((with_reducible refine at_slot 67 ?_); (refine arm_load (o := ⟨some 67, _, _, _, _, _⟩) rfl _ _ rfl D 0 rfl (scs (stL 1)) ((Has.refl _).range (hDb.congr (allS K1.out))) (sz_sta K1.out) ?_); try simp only [Act.put, List.setIfInBounds_toArray, List.set_cons_zero, List.set_cons_succ]))
  have lD : v25.heap.size ≤ D := by have := De.out; omega
  have bD : Below v25.heap.size v25 v27 := below_only nD.below oD lD nD.below.size
  have rrD : Row v27 D 41 (scs (stL 1)) := hDb.congr (allS K1.out)
  have geD : w.heap.size ≤ D := Nat.le_trans bel_26.size lD
  have lDx := lD
  clear hDa hDb nD oD sD De lD
  have V_28 : PAt v27 F4 S 2 (some (digS (stL 5))) ([stL 5, stL 6]) := V_26.old bD
  have A_28 : Row v27 A 41 (scs (stL 5)) := A_26.old bD
  have B_28 : Row v27 B 41 (scs (stL 6)) := B_26.old bD
  have C_28 : Row v27 C 41 (scs (stL 4)) := C_26.old bD
  have G_28 : Row v27 G 29 (u8s zh) := G_26.old bD
  have I_28 : Row v27 I 29 (u8s (digS (stL 4))) := I_26.old bD
  have J_28 : Row v27 J 41 (scs (stL 5)) := J_26.old bD
  have M_28 : Row v27 M 29 (u8s (digS (stL 5))) := rrM.old bD
  have bel_28 : Chg (fun _ => False) w v27 := bel_26.old bD
  clear V_26 A_26 B_26 C_26 G_26 I_26 J_26 rrM bel_26 bD
  have nD : ¬ F4 D := fun q => by have := l6.out D q; omega
  clear l6
  refine (keep_to (stL 1) V_28 K1.out (by decide) (HKW.out _ (bel_28.below (fun k hk => hk.elim) (Nat.le_refl _))) put4 rfl rfl).mono ?_
  rintro e yP29 ⟨rfl, ⟨F5, hV2, hG2⟩, hc⟩
  have mA := notF_grew nA hG2 A_28.lt
  have mB := notF_grew nB hG2 B_28.lt
  have mC := notF_grew nC hG2 C_28.lt
  have mG := notF_grew nG hG2 G_28.lt
  have mI := notF_grew nI hG2 I_28.lt
  have mJ := notF_grew nJ hG2 J_28.lt
  have mM := notF_grew nM hG2 M_28.lt
  have mD := notF_grew nD hG2 rrD.lt
  have fr5 := hG2.from fr4 bel_28.size
  have V_30 : PAt yP29 F5 S 2 (some (digS (stL 1))) ([stL 1, stL 6]) := hV2
  have A_30 : Row yP29 A 41 (scs (stL 5)) := A_28.chg hc nA
  have B_30 : Row yP29 B 41 (scs (stL 6)) := B_28.chg hc nB
  have C_30 : Row yP29 C 41 (scs (stL 4)) := C_28.chg hc nC
  have G_30 : Row yP29 G 29 (u8s zh) := G_28.chg hc nG
  have I_30 : Row yP29 I 29 (u8s (digS (stL 4))) := I_28.chg hc nI
  have J_30 : Row yP29 J 41 (scs (stL 5)) := J_28.chg hc nJ
  have M_30 : Row yP29 M 29 (u8s (digS (stL 5))) := M_28.chg hc nM
  have D_30 : Row yP29 D 41 (scs (stL 1)) := rrD.chg hc nD
  have bel_30 : Chg (fun _ => False) w yP29 := bel_28.fresh hc fr4
  clear V_28 A_28 B_28 C_28 G_28 I_28 J_28 M_28 rrD bel_28 hc
  clear nA
  have nA := mA
  clear mA
  clear nB
  have nB := mB
  clear mB
  clear nC
  have nC := mC
  clear mC
  clear nG
  have nG := mG
  clear mG
  clear nI
  have nI := mI
  clear mI
  clear nJ
  have nJ := mJ
  clear mJ
  clear nM
  have nM := mM
  clear mM
  clear nD
  have nD := mD
  clear mD
  clear hG2
  have l7 := Lib.hid V_30.lies
  go_wp2_with (first
    | ((with_reducible refine at_slot 16 ?_); (refine arm_alloc (o := ⟨some 16, _, _, _, _, _⟩) rfl _ rfl (u8s zh) zH ?_); intro O v31a Oe hOa nO; try simp only [Act.put, List.setIfInBounds_toArray, List.set_cons_zero, List.set_cons_succ])
    | ((with_reducible refine arm_store (o := ⟨none, _, _, _, _, _⟩) rfl _ _ _ rfl O 0 rfl (u8s (digS (stL 5))) rfl _ _ hOa (fitH D5.out) (u8s_one _) (szH D5.out) ?_); intro v31 hOb oO sO; try simp only [Act.put, List.setIfInBounds_toArray, List.set_cons_zero, List.set_cons_succ]))
  have lO : yP29.heap.size ≤ O := by have := Oe.out; omega
  have bO : Below yP29.heap.size yP29 v31 := below_only nO.below oO lO nO.below.size
  have rrO : Row v31 O 29 (u8s (digS (stL 5))) := hOb.congr (allH D5.out)
  have geO : w.heap.size ≤ O := Nat.le_trans bel_30.size lO
  have lOx := lO
  clear hOa hOb nO oO sO Oe lO
  have V_32 : PAt v31 F5 S 2 (some (digS (stL 1))) ([stL 1, stL 6]) := V_30.old bO
  have A_32 : Row v31 A 41 (scs (stL 5)) := A_30.old bO
  have B_32 : Row v31 B 41 (scs (stL 6)) := B_30.old bO
  have C_32 : Row v31 C 41 (scs (stL 4)) := C_30.old bO
  have G_32 : Row v31 G 29 (u8s zh) := G_30.old bO
  have I_32 : Row v31 I 29 (u8s (digS (stL 4))) := I_30.old bO
  have J_32 : Row v31 J 41 (scs (stL 5)) := J_30.old bO
  have M_32 : Row v31 M 29 (u8s (digS (stL 5))) := M_30.old bO
  have D_32 : Row v31 D 41 (scs (stL 1)) := D_30.old bO
  have bel_32 : Chg (fun _ => False) w v31 := bel_30.old bO
  clear V_30 A_30 B_30 C_30 G_30 I_30 J_30 M_30 D_30 bel_30 bO
  have nO : ¬ F5 O := fun q => by have := l7.out O q; omega
  clear l7
  refine (pinned_to V_32 rfl rfl).mono ?_
  rintro e y33 ⟨rfl, hB⟩
  have V_34 : PAt y33 F5 S 2 (some (digS (stL 1))) ([stL 1, stL 6]) := V_32.old hB
  have A_34 : Row y33 A 41 (scs (stL 5)) := A_32.old hB
  have B_34 : Row y33 B 41 (scs (stL 6)) := B_32.old hB
  have C_34 : Row y33 C 41 (scs (stL 4)) := C_32.old hB
  have G_34 : Row y33 G 29 (u8s zh) := G_32.old hB
  have I_34 : Row y33 I 29 (u8s (digS (stL 4))) := I_32.old hB
  have J_34 : Row y33 J 41 (scs (stL 5)) := J_32.old hB
  have M_34 : Row y33 M 29 (u8s (digS (stL 5))) := M_32.old hB
  have D_34 : Row y33 D 41 (scs (stL 1)) := D_32.old hB
  have O_34 : Row y33 O 29 (u8s (digS (stL 5))) := rrO.old hB
  have bel_34 : Chg (fun _ => False) w y33 := bel_32.old hB
  clear V_32 A_32 B_32 C_32 G_32 I_32 J_32 M_32 D_32 rrO bel_32 hB
  have l8 := Lib.hid V_34.lies
  go_wp2_with (first
    | ((with_reducible refine at_slot 18 ?_); (refine arm_alloc (o := ⟨some 18, _, _, _, _, _⟩) rfl _ rfl (u8s zh) zH ?_); intro Q v35a Qe hQa nQ; try simp only [Act.put, List.setIfInBounds_toArray, List.set_cons_zero, List.set_cons_succ])
    | ((with_reducible refine arm_store (o := ⟨none, _, _, _, _, _⟩) rfl _ _ _ rfl Q 0 rfl (u8s (digS (stL 1))) rfl _ _ hQa (fitH D1.out) (u8s_one _) (szH D1.out) ?_); intro v35 hQb oQ sQ; try simp only [Act.put, List.setIfInBounds_toArray, List.set_cons_zero, List.set_cons_succ]))
  have lQ : y33.heap.size ≤ Q := by have := Qe.out; omega
  have bQ : Below y33.heap.size y33 v35 := below_only nQ.below oQ lQ nQ.below.size
  have rrQ : Row v35 Q 29 (u8s (digS (stL 1))) := hQb.congr (allH D1.out)
  have geQ : w.heap.size ≤ Q := Nat.le_trans bel_34.size lQ
  have lQx := lQ
  clear hQa hQb nQ oQ sQ Qe lQ
  have V_36 : PAt v35 F5 S 2 (some (digS (stL 1))) ([stL 1, stL 6]) := V_34.old bQ
  have A_36 : Row v35 A 41 (scs (stL 5)) := A_34.old bQ
  have B_36 : Row v35 B 41 (scs (stL 6)) := B_34.old bQ
  have C_36 : Row v35 C 41 (scs (stL 4)) := C_34.old bQ
  have G_36 : Row v35 G 29 (u8s zh) := G_34.old bQ
  have I_36 : Row v35 I 29 (u8s (digS (stL 4))) := I_34.old bQ
  have J_36 : Row v35 J 41 (scs (stL 5)) := J_34.old bQ
  have M_36 : Row v35 M 29 (u8s (digS (stL 5))) := M_34.old bQ
  have D_36 : Row v35 D 41 (scs (stL 1)) := D_34.old bQ
  have O_36 : Row v35 O 29 (u8s (digS (stL 5))) := O_34.old bQ
  have bel_36 : Chg (fun _ => False) w v35 := bel_34.old bQ
  clear V_34 A_34 B_34 C_34 G_34 I_34 J_34 M_34 D_34 O_34 bel_34 bQ
  have nQ : ¬ F5 Q := fun q => by have := l8.out Q q; omega
  clear l8
  refine wp_region_held (S := fun w' => Row w' A 41 (scs (stL 5)) ∧ Row w' D 41 (scs (stL 1)) ∧ Row w' O 29 (u8s (digS (stL 5))) ∧ Row w' Q 29 (u8s (digS (stL 1))) ∧ True) (by kernel_rfl) ?_
  change wpAnyH _ _ _ _ _ _ _ _ v35.drew
  have hd37 : Below v35.heap.size v35 v35.drew := (Below.refl _ _).drew
  have V_38 : PAt v35.drew F5 S 2 (some (digS (stL 1))) ([stL 1, stL 6]) := V_36.old hd37
  have A_38 : Row v35.drew A 41 (scs (stL 5)) := A_36.old hd37
  have B_38 : Row v35.drew B 41 (scs (stL 6)) := B_36.old hd37
  have C_38 : Row v35.drew C 41 (scs (stL 4)) := C_36.old hd37
  have G_38 : Row v35.drew G 29 (u8s zh) := G_36.old hd37
  have I_38 : Row v35.drew I 29 (u8s (digS (stL 4))) := I_36.old hd37
  have J_38 : Row v35.drew J 41 (scs (stL 5)) := J_36.old hd37
  have M_38 : Row v35.drew M 29 (u8s (digS (stL 5))) := M_36.old hd37
  have D_38 : Row v35.drew D 41 (scs (stL 1)) := D_36.old hd37
  have O_38 : Row v35.drew O 29 (u8s (digS (stL 5))) := O_36.old hd37
  have Q_38 : Row v35.drew Q 29 (u8s (digS (stL 1))) := rrQ.old hd37
  have bel_38 : Chg (fun _ => False) w v35.drew := bel_36.old hd37
  clear V_36 A_36 B_36 C_36 G_36 I_36 J_36 M_36 D_36 O_36 rrQ bel_36 hd37
  generalize v35.drew = yz37 at V_38 A_38 B_38 C_38 G_38 I_38 J_38 M_38 D_38 O_38 Q_38 bel_38 ⊢
  refine h_take 0 (.agg (u8s (digS (stL 5))).toArray) rfl 76 rfl (by kernel_rfl) (by kernel_rfl) (by kernel_rfl) (by kernel_rfl) (fun _ _ _ h => h) (fun w' hw => run_op_load _ _ rfl O (0) rfl (u8s (digS (stL 5))) (((Has.refl _)).range hw.2.2.1) ((szH D5.out))) ⟨A_38, D_38, O_38, Q_38, trivial⟩ ?_
  simp only [Act.put, List.setIfInBounds_toArray, List.set_cons_zero, List.set_cons_succ]
  refine h_take 1 (.agg (scs (stL 5)).toArray) rfl 77 rfl (by kernel_rfl) (by kernel_rfl) (by kernel_rfl) (by kernel_rfl) (fun _ _ _ h => h) (fun w' hw => run_op_load _ _ rfl A (0) rfl (scs (stL 5)) (((Has.refl _)).range hw.1) ((sz_sta K5.out))) ⟨A_38, D_38, O_38, Q_38, trivial⟩ ?_
  simp only [Act.put, List.setIfInBounds_toArray, List.set_cons_zero, List.set_cons_succ]
  refine h_one (i := 2) (by kernel_rfl) (o_call rfl 78 rfl (by kernel_rfl) (run_op_call 7 _ _ rfl #[.agg (scs (stL 5)).toArray] (by simp only [List.map_toArray, List.map_cons, List.map_nil]; rfl) Tryd.func7 (by kernel_rfl) (by kernel_rfl) _) (CH.out (stL 5) K5.out _ (HKW.out _ (bel_38.below (fun k hk => hk.elim) (Nat.le_refl _)))) ?_)
  rintro e y39 ⟨rfl, hB⟩
  have V_40 : PAt y39 F5 S 2 (some (digS (stL 1))) ([stL 1, stL 6]) := V_38.old hB
  have A_40 : Row y39 A 41 (scs (stL 5)) := A_38.old hB
  have B_40 : Row y39 B 41 (scs (stL 6)) := B_38.old hB
  have C_40 : Row y39 C 41 (scs (stL 4)) := C_38.old hB
  have G_40 : Row y39 G 29 (u8s zh) := G_38.old hB
  have I_40 : Row y39 I 29 (u8s (digS (stL 4))) := I_38.old hB
  have J_40 : Row y39 J 41 (scs (stL 5)) := J_38.old hB
  have M_40 : Row y39 M 29 (u8s (digS (stL 5))) := M_38.old hB
  have D_40 : Row y39 D 41 (scs (stL 1)) := D_38.old hB
  have O_40 : Row y39 O 29 (u8s (digS (stL 5))) := O_38.old hB
  have Q_40 : Row y39 Q 29 (u8s (digS (stL 1))) := Q_38.old hB
  have bel_40 : Chg (fun _ => False) w y39 := bel_38.old hB
  clear V_38 A_38 B_38 C_38 G_38 I_38 J_38 M_38 D_38 O_38 Q_38 bel_38 hB
  refine ⟨_, rfl, ⟨A_40, D_40, O_40, Q_40, trivial⟩, ?_⟩
  simp only [Act.put, List.setIfInBounds_toArray, List.set_cons_zero, List.set_cons_succ]
  refine h_take 3 (.bool false) rfl 79 rfl (by kernel_rfl) (by kernel_rfl) (by kernel_rfl) (by kernel_rfl) (fun _ _ _ h => h) (fun w' _ => run_op_neqW _ _ _ rfl (digS (stL 5)) (digS (stL 5)) D5.out D5.out rfl rfl false (by rw [decide_eq_true rfl]; rfl) w') ⟨A_40, D_40, O_40, Q_40, trivial⟩ ?_
  simp only [Act.put, List.setIfInBounds_toArray, List.set_cons_zero, List.set_cons_succ]
  refine h_take 4 (.bool false) rfl 80 rfl (by kernel_rfl) (by kernel_rfl) (by kernel_rfl) (by kernel_rfl) (fun _ _ _ h => h) (fun w' _ => by kernel_rfl) ⟨A_40, D_40, O_40, Q_40, trivial⟩ ?_
  simp only [Act.put, List.setIfInBounds_toArray, List.set_cons_zero, List.set_cons_succ]
  refine h_take 5 (.bool true) rfl 81 rfl (by kernel_rfl) (by kernel_rfl) (by kernel_rfl) (by kernel_rfl) (fun _ _ _ h => h) (fun w' _ => by kernel_rfl) ⟨A_40, D_40, O_40, Q_40, trivial⟩ ?_
  simp only [Act.put, List.setIfInBounds_toArray, List.set_cons_zero, List.set_cons_succ]
  refine h_take 6 (.bool false) rfl 82 rfl (by kernel_rfl) (by kernel_rfl) (by kernel_rfl) (by kernel_rfl) (fun _ _ _ h => h) (fun w' _ => by kernel_rfl) ⟨A_40, D_40, O_40, Q_40, trivial⟩ ?_
  simp only [Act.put, List.setIfInBounds_toArray, List.set_cons_zero, List.set_cons_succ]
  refine h_take 7 (.bool false) rfl 83 rfl (by kernel_rfl) (by kernel_rfl) (by kernel_rfl) (by kernel_rfl) (fun _ _ _ h => h) (fun w' _ => by kernel_rfl) ⟨A_40, D_40, O_40, Q_40, trivial⟩ ?_
  simp only [Act.put, List.setIfInBounds_toArray, List.set_cons_zero, List.set_cons_succ]
  refine h_take 8 (.bool false) rfl 84 rfl (by kernel_rfl) (by kernel_rfl) (by kernel_rfl) (by kernel_rfl) (fun _ _ _ h => h) (fun w' _ => by kernel_rfl) ⟨A_40, D_40, O_40, Q_40, trivial⟩ ?_
  simp only [Act.put, List.setIfInBounds_toArray, List.set_cons_zero, List.set_cons_succ]
  refine h_take 9 (.agg (u8s (digS (stL 1))).toArray) rfl 85 rfl (by kernel_rfl) (by kernel_rfl) (by kernel_rfl) (by kernel_rfl) (fun _ _ _ h => h) (fun w' hw => run_op_load _ _ rfl Q (0) rfl (u8s (digS (stL 1))) (((Has.refl _)).range hw.2.2.2.1) ((szH D1.out))) ⟨A_40, D_40, O_40, Q_40, trivial⟩ ?_
  simp only [Act.put, List.setIfInBounds_toArray, List.set_cons_zero, List.set_cons_succ]
  refine h_take 10 (.agg (scs (stL 1)).toArray) rfl 86 rfl (by kernel_rfl) (by kernel_rfl) (by kernel_rfl) (by kernel_rfl) (fun _ _ _ h => h) (fun w' hw => run_op_load _ _ rfl D (0) rfl (scs (stL 1)) (((Has.refl _)).range hw.2.1) ((sz_sta K1.out))) ⟨A_40, D_40, O_40, Q_40, trivial⟩ ?_
  simp only [Act.put, List.setIfInBounds_toArray, List.set_cons_zero, List.set_cons_succ]
  refine h_one (i := 11) (by kernel_rfl) (o_call rfl 87 rfl (by kernel_rfl) (run_op_call 7 _ _ rfl #[.agg (scs (stL 1)).toArray] (by simp only [List.map_toArray, List.map_cons, List.map_nil]; rfl) Tryd.func7 (by kernel_rfl) (by kernel_rfl) _) (CH.out (stL 1) K1.out _ (HKW.out _ (bel_40.below (fun k hk => hk.elim) (Nat.le_refl _)))) ?_)
  rintro e y41 ⟨rfl, hB⟩
  have V_42 : PAt y41 F5 S 2 (some (digS (stL 1))) ([stL 1, stL 6]) := V_40.old hB
  have A_42 : Row y41 A 41 (scs (stL 5)) := A_40.old hB
  have B_42 : Row y41 B 41 (scs (stL 6)) := B_40.old hB
  have C_42 : Row y41 C 41 (scs (stL 4)) := C_40.old hB
  have G_42 : Row y41 G 29 (u8s zh) := G_40.old hB
  have I_42 : Row y41 I 29 (u8s (digS (stL 4))) := I_40.old hB
  have J_42 : Row y41 J 41 (scs (stL 5)) := J_40.old hB
  have M_42 : Row y41 M 29 (u8s (digS (stL 5))) := M_40.old hB
  have D_42 : Row y41 D 41 (scs (stL 1)) := D_40.old hB
  have O_42 : Row y41 O 29 (u8s (digS (stL 5))) := O_40.old hB
  have Q_42 : Row y41 Q 29 (u8s (digS (stL 1))) := Q_40.old hB
  have bel_42 : Chg (fun _ => False) w y41 := bel_40.old hB
  clear V_40 A_40 B_40 C_40 G_40 I_40 J_40 M_40 D_40 O_40 Q_40 bel_40 hB
  refine ⟨_, rfl, ⟨A_42, D_42, O_42, Q_42, trivial⟩, ?_⟩
  simp only [Act.put, List.setIfInBounds_toArray, List.set_cons_zero, List.set_cons_succ]
  refine h_take 12 (.bool false) rfl 88 rfl (by kernel_rfl) (by kernel_rfl) (by kernel_rfl) (by kernel_rfl) (fun _ _ _ h => h) (fun w' _ => run_op_neqW _ _ _ rfl (digS (stL 1)) (digS (stL 1)) D1.out D1.out rfl rfl false (by rw [decide_eq_true rfl]; rfl) w') ⟨A_42, D_42, O_42, Q_42, trivial⟩ ?_
  simp only [Act.put, List.setIfInBounds_toArray, List.set_cons_zero, List.set_cons_succ]
  refine h_take 13 (.bool false) rfl 89 rfl (by kernel_rfl) (by kernel_rfl) (by kernel_rfl) (by kernel_rfl) (fun _ _ _ h => h) (fun w' _ => by kernel_rfl) ⟨A_42, D_42, O_42, Q_42, trivial⟩ ?_
  simp only [Act.put, List.setIfInBounds_toArray, List.set_cons_zero, List.set_cons_succ]
  refine wpAnyH_done (by kernel_rfl) ?_ _
  go_wp2_with fail
  refine wp_region_held (S := fun w' => Row w' A 41 (scs (stL 5)) ∧ Row w' C 41 (scs (stL 4)) ∧ Row w' I 29 (u8s (digS (stL 4))) ∧ Row w' J 41 (scs (stL 5)) ∧ Row w' M 29 (u8s (digS (stL 5))) ∧ True) (by kernel_rfl) ?_
  change wpAnyH _ _ _ _ _ _ _ _ y41.drew
  have hd43 : Below y41.heap.size y41 y41.drew := (Below.refl _ _).drew
  have V_44 : PAt y41.drew F5 S 2 (some (digS (stL 1))) ([stL 1, stL 6]) := V_42.old hd43
  have A_44 : Row y41.drew A 41 (scs (stL 5)) := A_42.old hd43
  have B_44 : Row y41.drew B 41 (scs (stL 6)) := B_42.old hd43
  have C_44 : Row y41.drew C 41 (scs (stL 4)) := C_42.old hd43
  have G_44 : Row y41.drew G 29 (u8s zh) := G_42.old hd43
  have I_44 : Row y41.drew I 29 (u8s (digS (stL 4))) := I_42.old hd43
  have J_44 : Row y41.drew J 41 (scs (stL 5)) := J_42.old hd43
  have M_44 : Row y41.drew M 29 (u8s (digS (stL 5))) := M_42.old hd43
  have D_44 : Row y41.drew D 41 (scs (stL 1)) := D_42.old hd43
  have O_44 : Row y41.drew O 29 (u8s (digS (stL 5))) := O_42.old hd43
  have Q_44 : Row y41.drew Q 29 (u8s (digS (stL 1))) := Q_42.old hd43
  have bel_44 : Chg (fun _ => False) w y41.drew := bel_42.old hd43
  clear V_42 A_42 B_42 C_42 G_42 I_42 J_42 M_42 D_42 O_42 Q_42 bel_42 hd43
  generalize y41.drew = yz43 at V_44 A_44 B_44 C_44 G_44 I_44 J_44 M_44 D_44 O_44 Q_44 bel_44 ⊢
  refine h_take 0 (.bool false) rfl 90 rfl (by kernel_rfl) (by kernel_rfl) (by kernel_rfl) (by kernel_rfl) (fun _ _ _ h => h) (fun w' _ => by kernel_rfl) ⟨A_44, C_44, I_44, J_44, M_44, trivial⟩ ?_
  simp only [Act.put, List.setIfInBounds_toArray, List.set_cons_zero, List.set_cons_succ]
  refine h_take 1 (.bool true) rfl 91 rfl (by kernel_rfl) (by kernel_rfl) (by kernel_rfl) (by kernel_rfl) (fun _ _ _ h => h) (fun w' _ => by kernel_rfl) ⟨A_44, C_44, I_44, J_44, M_44, trivial⟩ ?_
  simp only [Act.put, List.setIfInBounds_toArray, List.set_cons_zero, List.set_cons_succ]
  refine h_take 2 (.bool true) rfl 92 rfl (by kernel_rfl) (by kernel_rfl) (by kernel_rfl) (by kernel_rfl) (fun _ _ _ h => h) (fun w' _ => by kernel_rfl) ⟨A_44, C_44, I_44, J_44, M_44, trivial⟩ ?_
  simp only [Act.put, List.setIfInBounds_toArray, List.set_cons_zero, List.set_cons_succ]
  refine h_take 3 (.agg (u8s (digS (stL 4))).toArray) rfl 93 rfl (by kernel_rfl) (by kernel_rfl) (by kernel_rfl) (by kernel_rfl) (fun _ _ _ h => h) (fun w' hw => run_op_load _ _ rfl I (0) rfl (u8s (digS (stL 4))) (((Has.refl _)).range hw.2.2.1) ((szH D4.out))) ⟨A_44, C_44, I_44, J_44, M_44, trivial⟩ ?_
  simp only [Act.put, List.setIfInBounds_toArray, List.set_cons_zero, List.set_cons_succ]
  refine h_take 4 (.agg (scs (stL 4)).toArray) rfl 94 rfl (by kernel_rfl) (by kernel_rfl) (by kernel_rfl) (by kernel_rfl) (fun _ _ _ h => h) (fun w' hw => run_op_load _ _ rfl C (0) rfl (scs (stL 4)) (((Has.refl _)).range hw.2.1) ((sz_sta K4.out))) ⟨A_44, C_44, I_44, J_44, M_44, trivial⟩ ?_
  simp only [Act.put, List.setIfInBounds_toArray, List.set_cons_zero, List.set_cons_succ]
  refine h_one (i := 5) (by kernel_rfl) (o_call rfl 95 rfl (by kernel_rfl) (run_op_call 7 _ _ rfl #[.agg (scs (stL 4)).toArray] (by simp only [List.map_toArray, List.map_cons, List.map_nil]; rfl) Tryd.func7 (by kernel_rfl) (by kernel_rfl) _) (CH.out (stL 4) K4.out _ (HKW.out _ (bel_44.below (fun k hk => hk.elim) (Nat.le_refl _)))) ?_)
  rintro e y45 ⟨rfl, hB⟩
  have V_46 : PAt y45 F5 S 2 (some (digS (stL 1))) ([stL 1, stL 6]) := V_44.old hB
  have A_46 : Row y45 A 41 (scs (stL 5)) := A_44.old hB
  have B_46 : Row y45 B 41 (scs (stL 6)) := B_44.old hB
  have C_46 : Row y45 C 41 (scs (stL 4)) := C_44.old hB
  have G_46 : Row y45 G 29 (u8s zh) := G_44.old hB
  have I_46 : Row y45 I 29 (u8s (digS (stL 4))) := I_44.old hB
  have J_46 : Row y45 J 41 (scs (stL 5)) := J_44.old hB
  have M_46 : Row y45 M 29 (u8s (digS (stL 5))) := M_44.old hB
  have D_46 : Row y45 D 41 (scs (stL 1)) := D_44.old hB
  have O_46 : Row y45 O 29 (u8s (digS (stL 5))) := O_44.old hB
  have Q_46 : Row y45 Q 29 (u8s (digS (stL 1))) := Q_44.old hB
  have bel_46 : Chg (fun _ => False) w y45 := bel_44.old hB
  clear V_44 A_44 B_44 C_44 G_44 I_44 J_44 M_44 D_44 O_44 Q_44 bel_44 hB
  refine ⟨_, rfl, ⟨A_46, C_46, I_46, J_46, M_46, trivial⟩, ?_⟩
  simp only [Act.put, List.setIfInBounds_toArray, List.set_cons_zero, List.set_cons_succ]
  refine h_take 6 (.bool true) rfl 96 rfl (by kernel_rfl) (by kernel_rfl) (by kernel_rfl) (by kernel_rfl) (fun _ _ _ h => h) (fun w' _ => run_op_eqlW _ _ _ rfl (digS (stL 4)) (digS (stL 4)) D4.out D4.out rfl rfl true (decide_eq_true rfl) w') ⟨A_46, C_46, I_46, J_46, M_46, trivial⟩ ?_
  simp only [Act.put, List.setIfInBounds_toArray, List.set_cons_zero, List.set_cons_succ]
  refine h_take 7 (.bool true) rfl 97 rfl (by kernel_rfl) (by kernel_rfl) (by kernel_rfl) (by kernel_rfl) (fun _ _ _ h => h) (fun w' _ => by kernel_rfl) ⟨A_46, C_46, I_46, J_46, M_46, trivial⟩ ?_
  simp only [Act.put, List.setIfInBounds_toArray, List.set_cons_zero, List.set_cons_succ]
  refine h_take 8 (.bool true) rfl 98 rfl (by kernel_rfl) (by kernel_rfl) (by kernel_rfl) (by kernel_rfl) (fun _ _ _ h => h) (fun w' _ => by kernel_rfl) ⟨A_46, C_46, I_46, J_46, M_46, trivial⟩ ?_
  simp only [Act.put, List.setIfInBounds_toArray, List.set_cons_zero, List.set_cons_succ]
  refine h_take 9 (.bool true) rfl 99 rfl (by kernel_rfl) (by kernel_rfl) (by kernel_rfl) (by kernel_rfl) (fun _ _ _ h => h) (fun w' _ => by kernel_rfl) ⟨A_46, C_46, I_46, J_46, M_46, trivial⟩ ?_
  simp only [Act.put, List.setIfInBounds_toArray, List.set_cons_zero, List.set_cons_succ]
  refine h_take 10 (.bool true) rfl 100 rfl (by kernel_rfl) (by kernel_rfl) (by kernel_rfl) (by kernel_rfl) (fun _ _ _ h => h) (fun w' _ => by kernel_rfl) ⟨A_46, C_46, I_46, J_46, M_46, trivial⟩ ?_
  simp only [Act.put, List.setIfInBounds_toArray, List.set_cons_zero, List.set_cons_succ]
  refine h_take 11 (.bool true) rfl 101 rfl (by kernel_rfl) (by kernel_rfl) (by kernel_rfl) (by kernel_rfl) (fun _ _ _ h => h) (fun w' _ => by kernel_rfl) ⟨A_46, C_46, I_46, J_46, M_46, trivial⟩ ?_
  simp only [Act.put, List.setIfInBounds_toArray, List.set_cons_zero, List.set_cons_succ]
  refine h_take 12 (.agg (scs (stL 5)).toArray) rfl 102 rfl (by kernel_rfl) (by kernel_rfl) (by kernel_rfl) (by kernel_rfl) (fun _ _ _ h => h) (fun w' hw => run_op_load _ _ rfl J (0) rfl (scs (stL 5)) (((Has.refl _)).range hw.2.2.2.1) ((sz_sta K5.out))) ⟨A_46, C_46, I_46, J_46, M_46, trivial⟩ ?_
  simp only [Act.put, List.setIfInBounds_toArray, List.set_cons_zero, List.set_cons_succ]
  refine h_take 13 (.agg (scs (stL 5)).toArray) rfl 103 rfl (by kernel_rfl) (by kernel_rfl) (by kernel_rfl) (by kernel_rfl) (fun _ _ _ h => h) (fun w' hw => run_op_load _ _ rfl A (0) rfl (scs (stL 5)) (((Has.refl _)).range hw.1) ((sz_sta K5.out))) ⟨A_46, C_46, I_46, J_46, M_46, trivial⟩ ?_
  simp only [Act.put, List.setIfInBounds_toArray, List.set_cons_zero, List.set_cons_succ]
  refine h_take 14 (.bool true) rfl 104 rfl (by kernel_rfl) (by kernel_rfl) (by kernel_rfl) (by kernel_rfl) (fun _ _ _ h => h) (fun w' _ => Sa.run_op_eqlS K5.out K5.out _ _ _ rfl rfl rfl true ⟨fun _ => rfl, fun _ => rfl⟩ w') ⟨A_46, C_46, I_46, J_46, M_46, trivial⟩ ?_
  simp only [Act.put, List.setIfInBounds_toArray, List.set_cons_zero, List.set_cons_succ]
  refine h_take 15 (.bool true) rfl 105 rfl (by kernel_rfl) (by kernel_rfl) (by kernel_rfl) (by kernel_rfl) (fun _ _ _ h => h) (fun w' _ => by kernel_rfl) ⟨A_46, C_46, I_46, J_46, M_46, trivial⟩ ?_
  simp only [Act.put, List.setIfInBounds_toArray, List.set_cons_zero, List.set_cons_succ]
  refine h_take 16 (.bool true) rfl 106 rfl (by kernel_rfl) (by kernel_rfl) (by kernel_rfl) (by kernel_rfl) (fun _ _ _ h => h) (fun w' _ => by kernel_rfl) ⟨A_46, C_46, I_46, J_46, M_46, trivial⟩ ?_
  simp only [Act.put, List.setIfInBounds_toArray, List.set_cons_zero, List.set_cons_succ]
  refine h_take 17 (.bool true) rfl 107 rfl (by kernel_rfl) (by kernel_rfl) (by kernel_rfl) (by kernel_rfl) (fun _ _ _ h => h) (fun w' _ => by kernel_rfl) ⟨A_46, C_46, I_46, J_46, M_46, trivial⟩ ?_
  simp only [Act.put, List.setIfInBounds_toArray, List.set_cons_zero, List.set_cons_succ]
  refine h_take 18 (.bool true) rfl 108 rfl (by kernel_rfl) (by kernel_rfl) (by kernel_rfl) (by kernel_rfl) (fun _ _ _ h => h) (fun w' _ => by kernel_rfl) ⟨A_46, C_46, I_46, J_46, M_46, trivial⟩ ?_
  simp only [Act.put, List.setIfInBounds_toArray, List.set_cons_zero, List.set_cons_succ]
  refine h_take 19 (.bool true) rfl 109 rfl (by kernel_rfl) (by kernel_rfl) (by kernel_rfl) (by kernel_rfl) (fun _ _ _ h => h) (fun w' _ => by kernel_rfl) ⟨A_46, C_46, I_46, J_46, M_46, trivial⟩ ?_
  simp only [Act.put, List.setIfInBounds_toArray, List.set_cons_zero, List.set_cons_succ]
  refine h_take 20 (.bool true) rfl 110 rfl (by kernel_rfl) (by kernel_rfl) (by kernel_rfl) (by kernel_rfl) (fun _ _ _ h => h) (fun w' _ => by kernel_rfl) ⟨A_46, C_46, I_46, J_46, M_46, trivial⟩ ?_
  simp only [Act.put, List.setIfInBounds_toArray, List.set_cons_zero, List.set_cons_succ]
  refine h_take 21 (.bool true) rfl 111 rfl (by kernel_rfl) (by kernel_rfl) (by kernel_rfl) (by kernel_rfl) (fun _ _ _ h => h) (fun w' _ => by kernel_rfl) ⟨A_46, C_46, I_46, J_46, M_46, trivial⟩ ?_
  simp only [Act.put, List.setIfInBounds_toArray, List.set_cons_zero, List.set_cons_succ]
  refine h_take 22 (.bool true) rfl 112 rfl (by kernel_rfl) (by kernel_rfl) (by kernel_rfl) (by kernel_rfl) (fun _ _ _ h => h) (fun w' _ => by kernel_rfl) ⟨A_46, C_46, I_46, J_46, M_46, trivial⟩ ?_
  simp only [Act.put, List.setIfInBounds_toArray, List.set_cons_zero, List.set_cons_succ]
  refine h_take 23 (.agg (u8s (digS (stL 5))).toArray) rfl 113 rfl (by kernel_rfl) (by kernel_rfl) (by kernel_rfl) (by kernel_rfl) (fun _ _ _ h => h) (fun w' hw => run_op_load _ _ rfl M (0) rfl (u8s (digS (stL 5))) (((Has.refl _)).range hw.2.2.2.2.1) ((szH D5.out))) ⟨A_46, C_46, I_46, J_46, M_46, trivial⟩ ?_
  simp only [Act.put, List.setIfInBounds_toArray, List.set_cons_zero, List.set_cons_succ]
  refine h_take 24 (.agg (scs (stL 5)).toArray) rfl 114 rfl (by kernel_rfl) (by kernel_rfl) (by kernel_rfl) (by kernel_rfl) (fun _ _ _ h => h) (fun w' hw => run_op_load _ _ rfl A (0) rfl (scs (stL 5)) (((Has.refl _)).range hw.1) ((sz_sta K5.out))) ⟨A_46, C_46, I_46, J_46, M_46, trivial⟩ ?_
  simp only [Act.put, List.setIfInBounds_toArray, List.set_cons_zero, List.set_cons_succ]
  refine h_one (i := 25) (by kernel_rfl) (o_call rfl 115 rfl (by kernel_rfl) (run_op_call 7 _ _ rfl #[.agg (scs (stL 5)).toArray] (by simp only [List.map_toArray, List.map_cons, List.map_nil]; rfl) Tryd.func7 (by kernel_rfl) (by kernel_rfl) _) (CH.out (stL 5) K5.out _ (HKW.out _ (bel_46.below (fun k hk => hk.elim) (Nat.le_refl _)))) ?_)
  rintro e y47 ⟨rfl, hB⟩
  have V_48 : PAt y47 F5 S 2 (some (digS (stL 1))) ([stL 1, stL 6]) := V_46.old hB
  have A_48 : Row y47 A 41 (scs (stL 5)) := A_46.old hB
  have B_48 : Row y47 B 41 (scs (stL 6)) := B_46.old hB
  have C_48 : Row y47 C 41 (scs (stL 4)) := C_46.old hB
  have G_48 : Row y47 G 29 (u8s zh) := G_46.old hB
  have I_48 : Row y47 I 29 (u8s (digS (stL 4))) := I_46.old hB
  have J_48 : Row y47 J 41 (scs (stL 5)) := J_46.old hB
  have M_48 : Row y47 M 29 (u8s (digS (stL 5))) := M_46.old hB
  have D_48 : Row y47 D 41 (scs (stL 1)) := D_46.old hB
  have O_48 : Row y47 O 29 (u8s (digS (stL 5))) := O_46.old hB
  have Q_48 : Row y47 Q 29 (u8s (digS (stL 1))) := Q_46.old hB
  have bel_48 : Chg (fun _ => False) w y47 := bel_46.old hB
  clear V_46 A_46 B_46 C_46 G_46 I_46 J_46 M_46 D_46 O_46 Q_46 bel_46 hB
  refine ⟨_, rfl, ⟨A_48, C_48, I_48, J_48, M_48, trivial⟩, ?_⟩
  simp only [Act.put, List.setIfInBounds_toArray, List.set_cons_zero, List.set_cons_succ]
  refine h_take 26 (.bool true) rfl 116 rfl (by kernel_rfl) (by kernel_rfl) (by kernel_rfl) (by kernel_rfl) (fun _ _ _ h => h) (fun w' _ => run_op_eqlW _ _ _ rfl (digS (stL 5)) (digS (stL 5)) D5.out D5.out rfl rfl true (decide_eq_true rfl) w') ⟨A_48, C_48, I_48, J_48, M_48, trivial⟩ ?_
  simp only [Act.put, List.setIfInBounds_toArray, List.set_cons_zero, List.set_cons_succ]
  refine h_take 27 (.bool true) rfl 117 rfl (by kernel_rfl) (by kernel_rfl) (by kernel_rfl) (by kernel_rfl) (fun _ _ _ h => h) (fun w' _ => by kernel_rfl) ⟨A_48, C_48, I_48, J_48, M_48, trivial⟩ ?_
  simp only [Act.put, List.setIfInBounds_toArray, List.set_cons_zero, List.set_cons_succ]
  refine h_take 28 (.bool true) rfl 118 rfl (by kernel_rfl) (by kernel_rfl) (by kernel_rfl) (by kernel_rfl) (fun _ _ _ h => h) (fun w' _ => by kernel_rfl) ⟨A_48, C_48, I_48, J_48, M_48, trivial⟩ ?_
  simp only [Act.put, List.setIfInBounds_toArray, List.set_cons_zero, List.set_cons_succ]
  refine h_take 29 (.bool true) rfl 119 rfl (by kernel_rfl) (by kernel_rfl) (by kernel_rfl) (by kernel_rfl) (fun _ _ _ h => h) (fun w' _ => by kernel_rfl) ⟨A_48, C_48, I_48, J_48, M_48, trivial⟩ ?_
  simp only [Act.put, List.setIfInBounds_toArray, List.set_cons_zero, List.set_cons_succ]
  refine h_take 30 (.bool true) rfl 120 rfl (by kernel_rfl) (by kernel_rfl) (by kernel_rfl) (by kernel_rfl) (fun _ _ _ h => h) (fun w' _ => by kernel_rfl) ⟨A_48, C_48, I_48, J_48, M_48, trivial⟩ ?_
  simp only [Act.put, List.setIfInBounds_toArray, List.set_cons_zero, List.set_cons_succ]
  refine h_take 31 (.bool true) rfl 121 rfl (by kernel_rfl) (by kernel_rfl) (by kernel_rfl) (by kernel_rfl) (fun _ _ _ h => h) (fun w' _ => by kernel_rfl) ⟨A_48, C_48, I_48, J_48, M_48, trivial⟩ ?_
  simp only [Act.put, List.setIfInBounds_toArray, List.set_cons_zero, List.set_cons_succ]
  refine h_take 32 (.pointer (some ⟨S, 0, none⟩)) rfl 122 rfl (by kernel_rfl) (by kernel_rfl) (by kernel_rfl) (by kernel_rfl) (fun _ _ _ h => h) (fun w' _ => by kernel_rfl) ⟨A_48, C_48, I_48, J_48, M_48, trivial⟩ ?_
  simp only [Act.put, List.setIfInBounds_toArray, List.set_cons_zero, List.set_cons_succ]
  refine h_one (i := 33) (by kernel_rfl) (o_call rfl 123 rfl (by kernel_rfl) (run_op_call 14 _ _ rfl #[.pointer (some ⟨S, 0, none⟩)] (by simp only [List.map_toArray, List.map_cons, List.map_nil]; rfl) Tryd.func14 (by kernel_rfl) (by kernel_rfl) _) (len_to (n := 2) V_48 rfl) ?_)
  rintro e _ ⟨rfl, rfl⟩
  refine ⟨_, rfl, ⟨A_48, C_48, I_48, J_48, M_48, trivial⟩, ?_⟩
  simp only [Act.put, List.setIfInBounds_toArray, List.set_cons_zero, List.set_cons_succ]
  refine h_take 34 (.bool true) rfl 124 rfl (by kernel_rfl) (by kernel_rfl) (by kernel_rfl) (by kernel_rfl) (fun _ _ _ h => h) (fun w' _ => cmp_eql _ _ .i64 (by kernel_rfl) _ _ rfl .i64 (2 : Int) (2 : Int) rfl rfl true rfl w') ⟨A_48, C_48, I_48, J_48, M_48, trivial⟩ ?_
  simp only [Act.put, List.setIfInBounds_toArray, List.set_cons_zero, List.set_cons_succ]
  refine h_take 35 (.bool true) rfl 125 rfl (by kernel_rfl) (by kernel_rfl) (by kernel_rfl) (by kernel_rfl) (fun _ _ _ h => h) (fun w' _ => by kernel_rfl) ⟨A_48, C_48, I_48, J_48, M_48, trivial⟩ ?_
  simp only [Act.put, List.setIfInBounds_toArray, List.set_cons_zero, List.set_cons_succ]
  refine h_take 36 (.bool true) rfl 126 rfl (by kernel_rfl) (by kernel_rfl) (by kernel_rfl) (by kernel_rfl) (fun _ _ _ h => h) (fun w' _ => by kernel_rfl) ⟨A_48, C_48, I_48, J_48, M_48, trivial⟩ ?_
  simp only [Act.put, List.setIfInBounds_toArray, List.set_cons_zero, List.set_cons_succ]
  refine h_take 37 (.pointer (some ⟨S, 0, none⟩)) rfl 127 rfl (by kernel_rfl) (by kernel_rfl) (by kernel_rfl) (by kernel_rfl) (fun _ _ _ h => h) (fun w' _ => by kernel_rfl) ⟨A_48, C_48, I_48, J_48, M_48, trivial⟩ ?_
  simp only [Act.put, List.setIfInBounds_toArray, List.set_cons_zero, List.set_cons_succ]
  refine h_one (i := 38) (by kernel_rfl) (o_call rfl 128 rfl (by kernel_rfl) (run_op_call 13 _ _ rfl #[.pointer (some ⟨S, 0, none⟩)] (by simp only [List.map_toArray, List.map_cons, List.map_nil]; rfl) Tryd.func13 (by kernel_rfl) (by kernel_rfl) _) (pkeys_any V_48 (by decide)) ?_)
  rintro e y49 ⟨⟨kp, kc, rfl, hkO⟩, hB⟩
  have V_50 : PAt y49 F5 S 2 (some (digS (stL 1))) ([stL 1, stL 6]) := V_48.old hB
  have A_50 : Row y49 A 41 (scs (stL 5)) := A_48.old hB
  have B_50 : Row y49 B 41 (scs (stL 6)) := B_48.old hB
  have C_50 : Row y49 C 41 (scs (stL 4)) := C_48.old hB
  have G_50 : Row y49 G 29 (u8s zh) := G_48.old hB
  have I_50 : Row y49 I 29 (u8s (digS (stL 4))) := I_48.old hB
  have J_50 : Row y49 J 41 (scs (stL 5)) := J_48.old hB
  have M_50 : Row y49 M 29 (u8s (digS (stL 5))) := M_48.old hB
  have D_50 : Row y49 D 41 (scs (stL 1)) := D_48.old hB
  have O_50 : Row y49 O 29 (u8s (digS (stL 5))) := O_48.old hB
  have Q_50 : Row y49 Q 29 (u8s (digS (stL 1))) := Q_48.old hB
  have bel_50 : Chg (fun _ => False) w y49 := bel_48.old hB
  clear V_48 A_48 B_48 C_48 G_48 I_48 J_48 M_48 D_48 O_48 Q_48 bel_48 hB
  refine ⟨_, rfl, ⟨A_50, C_50, I_50, J_50, M_50, trivial⟩, ?_⟩
  simp only [Act.put, List.setIfInBounds_toArray, List.set_cons_zero, List.set_cons_succ]
  clear hkO
  refine h_take 39 (.int .i64 (2 : Int)) rfl 129 rfl (by kernel_rfl) (by kernel_rfl) (by kernel_rfl) (by kernel_rfl) (fun _ _ _ h => h) (fun w' _ => Sl.run_op_lenK _ _ _ rfl Od.fK.und _ _ _ rfl w') ⟨A_50, C_50, I_50, J_50, M_50, trivial⟩ ?_
  simp only [Act.put, List.setIfInBounds_toArray, List.set_cons_zero, List.set_cons_succ]
  refine h_take 40 (.bool true) rfl 130 rfl (by kernel_rfl) (by kernel_rfl) (by kernel_rfl) (by kernel_rfl) (fun _ _ _ h => h) (fun w' _ => cmp_eql _ _ .i64 (by kernel_rfl) _ _ rfl .i64 (2 : Int) (2 : Int) rfl rfl true rfl w') ⟨A_50, C_50, I_50, J_50, M_50, trivial⟩ ?_
  simp only [Act.put, List.setIfInBounds_toArray, List.set_cons_zero, List.set_cons_succ]
  refine h_take 41 (.bool true) rfl 131 rfl (by kernel_rfl) (by kernel_rfl) (by kernel_rfl) (by kernel_rfl) (fun _ _ _ h => h) (fun w' _ => by kernel_rfl) ⟨A_50, C_50, I_50, J_50, M_50, trivial⟩ ?_
  simp only [Act.put, List.setIfInBounds_toArray, List.set_cons_zero, List.set_cons_succ]
  refine h_take 42 (.bool true) rfl 132 rfl (by kernel_rfl) (by kernel_rfl) (by kernel_rfl) (by kernel_rfl) (fun _ _ _ h => h) (fun w' _ => by kernel_rfl) ⟨A_50, C_50, I_50, J_50, M_50, trivial⟩ ?_
  simp only [Act.put, List.setIfInBounds_toArray, List.set_cons_zero, List.set_cons_succ]
  refine h_take 43 (.pointer (some ⟨S, 0, none⟩)) rfl 133 rfl (by kernel_rfl) (by kernel_rfl) (by kernel_rfl) (by kernel_rfl) (fun _ _ _ h => h) (fun w' _ => by kernel_rfl) ⟨A_50, C_50, I_50, J_50, M_50, trivial⟩ ?_
  simp only [Act.put, List.setIfInBounds_toArray, List.set_cons_zero, List.set_cons_succ]
  refine h_take 44 (.agg (u8s (digS (stL 4))).toArray) rfl 134 rfl (by kernel_rfl) (by kernel_rfl) (by kernel_rfl) (by kernel_rfl) (fun _ _ _ h => h) (fun w' hw => run_op_load _ _ rfl I (0) rfl (u8s (digS (stL 4))) (((Has.refl _)).range hw.2.2.1) ((szH D4.out))) ⟨A_50, C_50, I_50, J_50, M_50, trivial⟩ ?_
  simp only [Act.put, List.setIfInBounds_toArray, List.set_cons_zero, List.set_cons_succ]
  have mA := nA
  have mC := nC
  have mI := nI
  have mJ := nJ
  have mM := nM
  have mB := nB
  have mG := nG
  have mD := nD
  have mO := nO
  have mQ := nQ
  refine h_one (i := 45) (by kernel_rfl) (o_call rfl 135 rfl (by kernel_rfl) (run_op_call 8 _ _ rfl #[.pointer (some ⟨S, 0, none⟩), .agg (u8s (digS (stL 4))).toArray] (by simp only [List.map_toArray, List.map_cons, List.map_nil]; rfl) Tryd.func8 (by kernel_rfl) (by kernel_rfl) _) (pin_to (q := some (digS (stL 1))) D4.out V_50 has4 rfl) ?_)
  rintro e y51 ⟨rfl, ⟨F6, hV6, hG6⟩, hc⟩
  have V_52 : PAt y51 F6 S 2 (some (digS (stL 1))) [stL 1, stL 6] := hV6
  have A_52 : Row y51 A 41 (scs (stL 5)) := A_50.chg hc nA
  have B_52 : Row y51 B 41 (scs (stL 6)) := B_50.chg hc nB
  have C_52 : Row y51 C 41 (scs (stL 4)) := C_50.chg hc nC
  have G_52 : Row y51 G 29 (u8s zh) := G_50.chg hc nG
  have I_52 : Row y51 I 29 (u8s (digS (stL 4))) := I_50.chg hc nI
  have J_52 : Row y51 J 41 (scs (stL 5)) := J_50.chg hc nJ
  have M_52 : Row y51 M 29 (u8s (digS (stL 5))) := M_50.chg hc nM
  have D_52 : Row y51 D 41 (scs (stL 1)) := D_50.chg hc nD
  have O_52 : Row y51 O 29 (u8s (digS (stL 5))) := O_50.chg hc nO
  have Q_52 : Row y51 Q 29 (u8s (digS (stL 1))) := Q_50.chg hc nQ
  have bel_52 : Chg (fun _ => False) w y51 := bel_50.fresh hc fr5
  clear V_50 A_50 B_50 C_50 G_50 I_50 J_50 M_50 D_50 O_50 Q_50 bel_50 hc
  refine ⟨_, rfl, ⟨A_52, C_52, I_52, J_52, M_52, trivial⟩, ?_⟩
  simp only [Act.put, List.setIfInBounds_toArray, List.set_cons_zero, List.set_cons_succ]
  refine h_take 46 (.bool true) rfl 136 rfl (by kernel_rfl) (by kernel_rfl) (by kernel_rfl) (by kernel_rfl) (fun _ _ _ h => h) (fun w' _ => by kernel_rfl) ⟨A_52, C_52, I_52, J_52, M_52, trivial⟩ ?_
  simp only [Act.put, List.setIfInBounds_toArray, List.set_cons_zero, List.set_cons_succ]
  refine h_take 47 (.bool true) rfl 137 rfl (by kernel_rfl) (by kernel_rfl) (by kernel_rfl) (by kernel_rfl) (fun _ _ _ h => h) (fun w' _ => by kernel_rfl) ⟨A_52, C_52, I_52, J_52, M_52, trivial⟩ ?_
  simp only [Act.put, List.setIfInBounds_toArray, List.set_cons_zero, List.set_cons_succ]
  refine h_take 48 (.bool true) rfl 0 rfl (by kernel_rfl) (by kernel_rfl) (by kernel_rfl) (by kernel_rfl) (fun _ _ _ h => h) (fun w' _ => by kernel_rfl) ⟨A_52, C_52, I_52, J_52, M_52, trivial⟩ ?_
  simp only [Act.put, List.setIfInBounds_toArray, List.set_cons_zero, List.set_cons_succ]
  refine wpAnyH_done (by kernel_rfl) ?_ _
  go_wp2_with fail
  go_ret
  exact ⟨rfl, (bel_52.below (fun k hk => hk.elim) (Nat.le_refl _))⟩
end Go.Proofs.YtnjmocobncncdaaDoor.So
