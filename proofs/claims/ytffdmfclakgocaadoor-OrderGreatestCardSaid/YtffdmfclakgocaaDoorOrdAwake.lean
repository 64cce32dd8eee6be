/-
  The contract of layer 12's awake: the calls whose answers the document fixes answer so: it returns true. Over this seat's translation.
-/
import Derived.Test.YtffdmfclakgocaaDoorOrdTop
import Derived.Test.YtffdmfclakgocaaDoorCmp
namespace Go.Proofs.YtffdmfclakgocaaDoor.Od
open Go.ChangeShapes Go.WideShapes Go.ChangeAt Go.RowKit Go.Proofs.YtffdmfclakgocaaDoor.Mem Go.Proofs.YtffdmfclakgocaaDoor.Bt Go.Proofs.YtffdmfclakgocaaDoor.Sl
open Go.Proofs.YtffdmfclakgocaaDoor.Ep (H32 zh zh_ok num32 Has h_len one_app one_num szH zH fitH allH)
open Go.Proofs.YtffdmfclakgocaaDoor.Sha (ks)
open Go.Proofs.YtffdmfclakgocaaDoor.Sa (Sta scs digS digS_ok sz_sta sz_rsta h_drw h_lngth)
set_option linter.unusedVariables false
set_option linter.unusedSimpArgs false

section
variable {P : Program} {ops : Array Oper} {rest : List Oper} {o : Oper} {a : Act} {w : World} {Q : Exit → Act → World → Prop}
/-- A guarded operation that is wanted, and makes memory. -/
theorem arm_want2 (v : Value) (w2 : World) (d : Tmp) (hd : o.dst = some d) (hw : Region.wanted o (yielded ops a.tmps) = true) (hr : (execOp a.eval o).run P w = .ok (.value v) w2) (h : wpList P ops Q rest (a.put (some d) v) w2) : wpList P ops Q (o :: rest) a w :=
  BigFrame.wpList_want hw fun K hK => by
    unfold Oper.wp
    rw [hr]
    rw [← hd] at h
    exact hK _ _ h
end
/-- Digests of few bytes, and zeros. -/
def hn (n : Nat) : List Nat := n :: List.replicate 31 0
def hm (n m : Nat) : List Nat := n :: m :: List.replicate 30 0
theorem hm_ok {n m : Nat} (h : n < 256) (g : m < 256) : H32 (hm n m) := ⟨by unfold hm; simp, fun x hx => by
  unfold hm at hx
  rcases List.mem_cons.1 hx with rfl | hx
  · exact h
  · rcases List.mem_cons.1 hx with rfl | hx
    · exact g
    · have := List.eq_of_mem_replicate hx; omega⟩
theorem hn_ok {n : Nat} (h : n < 256) : H32 (hn n) := hm_ok (m := 0) h (by decide)
def awa : Ky := ⟨5, hn 9, zh⟩
def awb : Ky := ⟨6, hn 1, zh⟩
def awc : Ky := ⟨6, hn 1, hm 0 1⟩
theorem awa_ok : awa.Ok := ⟨(by decide : 5 < 4294967296), hn_ok (by decide), zh_ok⟩
theorem awb_ok : awb.Ok := ⟨(by decide : 6 < 4294967296), hn_ok (by decide), zh_ok⟩
theorem awc_ok : awc.Ok := ⟨(by decide : 6 < 4294967296), hn_ok (by decide), hm_ok (by decide) (by decide)⟩
theorem top4 {a b c : Ky} (h1 : kval a < kval c) (h2 : kval b < kval c) : Top [a, c, b, c] 4 1 := ⟨by omega, fun i x y hi hx hy => by
  obtain rfl : c = y := by simpa using hy
  have : i = 0 ∨ i = 1 ∨ i = 2 ∨ i = 3 := by omega
  rcases this with rfl | rfl | rfl | rfl <;> simp at hx <;> subst hx <;> omega, fun i x y hi hx hy => by
  obtain rfl : c = y := by simpa using hy
  obtain rfl : i = 0 := by omega
  simp at hx
  subst hx
  exact h1⟩
theorem aw1 : kcmp awa awb = -1 := cmpN_lt (kval_len awa_ok (by decide : 5 < 6))
theorem aw2 : kcmp awc awb = 1 := by
  have h : val zh < val (hm 0 1) := (hash_at (x := zh) (y := hm 0 1) (i := 1) (a := 0) (b := 1) zh_ok (hm_ok (by decide) (by decide)) rfl rfl rfl).1 (by decide)
  rw [kval_hash (a := awc) (b := awb) rfl rfl]
  exact cmpN_gt h
theorem aw3 : kcmp awb awb = 0 := cmpN_same _
theorem aw4 : kval awa < kval awc := kval_len awa_ok (by decide : 5 < 6)
theorem aw5 : kval awb < kval awc := cmpN_pos.1 (by have := aw2; unfold kcmp at this; omega)
theorem aw6 : topF [awa, awc, awb, awc] = 1 := topF_of (top4 aw4 aw5)
theorem aw7 : cmpN (val (hn 1)) (val (hm 0 255)) = 1 := by
  have h : val (hm 0 255) < val (hn 1) := (hash_at (x := hm 0 255) (y := hn 1) (i := 0) (a := 0) (b := 1) (hm_ok (by decide) (by decide)) (hn_ok (by decide)) rfl rfl rfl).1 (by decide)
  exact cmpN_gt h
set_option maxHeartbeats 4000000 in
set_option maxRecDepth 100000 in
theorem awake_any (w : World) (hk : w.rangeAt 1 0 (u32s ks)) :
    Calls Tryd.prog 6 #[] w fun e w' => e = .returned (.bool true) ∧ Below w.heap.size w w' := by
  have hk1 : 1 < w.heap.size := range_lt hk (by simp [u32s, ks])
  have HKW : Hid (∀ w', Below w.heap.size w w' → w'.rangeAt 1 0 (u32s ks)) := Lib.hid fun w' hb => range_block hk (hb.block _ hk1)
  clear hk hk1
  obtain ⟨y, hy⟩ : ∃ y, y = hn 3 := ⟨_, rfl⟩
  have B9 := Lib.hid (show Tryd.prog.built 23 [(0, .int .u8 9)] = some (u8s (hn 9)).toArray by kernel_rfl)
  have B1 := Lib.hid (show Tryd.prog.built 23 [(0, .int .u8 1)] = some (u8s (hn 1)).toArray by kernel_rfl)
  have B01 := Lib.hid (show Tryd.prog.built 23 [(0, .int .u8 0), (1, .int .u8 1)] = some (u8s (hm 0 1)).toArray by kernel_rfl)
  have B0255 := Lib.hid (show Tryd.prog.built 23 [(0, .int .u8 0), (1, .int .u8 255)] = some (u8s (hm 0 255)).toArray by kernel_rfl)
  have B3 := Lib.hid (show Tryd.prog.built 23 [(0, .int .u8 3)] = some (u8s y).toArray by rw [hy]; kernel_rfl)
  have KY := Lib.hid (show H32 y by rw [hy]; exact hn_ok (by decide))
  clear hy
  have BA := Lib.hid (show Tryd.prog.built 37 [(0, .int .u32 5), (1, .agg (u8s (hn 9)).toArray)] = some (kcs awa).toArray by kernel_rfl)
  have BB := Lib.hid (show Tryd.prog.built 37 [(0, .int .u32 6), (1, .agg (u8s (hn 1)).toArray)] = some (kcs awb).toArray by kernel_rfl)
  have BC := Lib.hid (show Tryd.prog.built 37 [(0, .int .u32 6), (1, .agg (u8s (hn 1)).toArray), (2, .agg (u8s (hm 0 1)).toArray)] = some (kcs awc).toArray by kernel_rfl)
  have KA := Lib.hid awa_ok; have KB := Lib.hid awb_ok; have KC := Lib.hid awc_ok
  have CG := Lib.hid (fun w0 => Sa.sgenesis_any y w0 KY.out)
  have GK := Lib.hid (Sa.gen_ok KY.out)
  have KK := Lib.hid (keyN_ok GK.out)
  have KL := Lib.hid (show (keyN (Sa.genS y)).len = 1 from rfl)
  have CO := Lib.hid (fun w0 h => of_any (Sa.genS y) w0 GK.out h)
  generalize keyN (Sa.genS y) = kg at CO KK KL
  have C1 := Lib.hid (fun w0 => compare_any awa awb w0 KA.out KB.out)
  have C2 := Lib.hid (fun w0 => compare_any awc awb w0 KC.out KB.out)
  have C3 := Lib.hid (fun w0 => compare_any awb awb w0 KB.out KB.out)
  have C7 := Lib.hid (fun w0 => hashes_any (hn 1) (hm 0 255) w0 (hn_ok (by decide)) (hm_ok (by decide) (by decide)))
  rw [aw1] at C1; rw [aw2] at C2; rw [aw3] at C3; rw [aw7] at C7
  have C6 : Hid (∀ w0 Q, At kK w0 (some ⟨Q, 0, none⟩) [awa, awc, awb, awc] → Calls Tryd.prog 14 #[.slice (some ⟨Q, 0, none⟩) 4 4] w0 fun e w' => e = .returned (.int .i64 1) ∧ Below w0.heap.size w0 w') := Lib.hid fun w0 Q h => by
    have c := greatest_any [awa, awc, awb, awc] (some ⟨Q, 0, none⟩) 4 w0 h (by simp)
    rw [aw6] at c
    exact c
  have C0 : Hid (∀ w0, Calls Tryd.prog 14 #[.slice none 0 0] w0 fun e w' => e = .returned (.int .i64 (-1)) ∧ Below w0.heap.size w0 w') := Lib.hid fun w0 => by
    have c := greatest_any [] none 0 w0 (At.nil _ _) (by simp)
    rw [topF_nil] at c
    exact c
  have O4 : Hid (kK.AllOk [awa, awc, awb, awc]) := Lib.hid (allOk_cons KA.out (allOk_cons KC.out (allOk_cons KB.out (allOk_cons KC.out allOk_nil))))
  generalize awa = a at *
  generalize awb = b at *
  generalize awc = c at *
  go_enter Tryd.func6, Tryd.ntmps6
  go_wp2_with (first
    | ((with_reducible refine at_slot 5 ?_); (refine arm_build (o := ⟨some 5, _, _, _, _, _⟩) rfl _ _ rfl (u8s (hn 9)) (by simp only [List.map_toArray, List.map_cons, List.map_nil]; exact B9.out) ?_); try simp only [Act.put, List.setIfInBounds_toArray, List.set_cons_zero, List.set_cons_succ])
    | ((with_reducible refine at_slot 6 ?_); (refine arm_build (o := ⟨some 6, _, _, _, _, _⟩) rfl _ _ rfl (kcs a) (by simp only [List.map_toArray, List.map_cons, List.map_nil]; exact BA.out) ?_); try simp only [Act.put, List.setIfInBounds_toArray, List.set_cons_zero, List.set_cons_succ])
    | ((with_reducible refine at_slot 1 ?_); (refine arm_alloc (o := ⟨some 1, _, _, _, _, _⟩) rfl _ rfl (kcs zk) z_key ?_); intro A v1 Ae hv1 nv1; try simp only [Act.put, List.setIfInBounds_toArray, List.set_cons_zero, List.set_cons_succ])
    | ((with_reducible refine arm_store (o := ⟨none, _, _, _, _, _⟩) rfl _ _ _ rfl A 0 rfl (kcs a) rfl _ _ (hv1) (fitK KA.out) (kcs_one _) (sz_key KA.out) ?_); intro v2 hv2 ov2 sv2; try simp only [Act.put, List.setIfInBounds_toArray, List.set_cons_zero, List.set_cons_succ])
    | ((with_reducible refine at_slot 7 ?_); (refine arm_build (o := ⟨some 7, _, _, _, _, _⟩) rfl _ _ rfl (u8s (hn 1)) (by simp only [List.map_toArray, List.map_cons, List.map_nil]; exact B1.out) ?_); try simp only [Act.put, List.setIfInBounds_toArray, List.set_cons_zero, List.set_cons_succ])
    | ((with_reducible refine at_slot 8 ?_); (refine arm_build (o := ⟨some 8, _, _, _, _, _⟩) rfl _ _ rfl (kcs b) (by simp only [List.map_toArray, List.map_cons, List.map_nil]; exact BB.out) ?_); try simp only [Act.put, List.setIfInBounds_toArray, List.set_cons_zero, List.set_cons_succ])
    | ((with_reducible refine at_slot 2 ?_); (refine arm_alloc (o := ⟨some 2, _, _, _, _, _⟩) rfl _ rfl (kcs zk) z_key ?_); intro B v3 Be hv3 nv3; try simp only [Act.put, List.setIfInBounds_toArray, List.set_cons_zero, List.set_cons_succ])
    | ((with_reducible refine arm_store (o := ⟨none, _, _, _, _, _⟩) rfl _ _ _ rfl B 0 rfl (kcs b) rfl _ _ (hv3) (fitK KB.out) (kcs_one _) (sz_key KB.out) ?_); intro v4 hv4 ov4 sv4; try simp only [Act.put, List.setIfInBounds_toArray, List.set_cons_zero, List.set_cons_succ])
    | ((with_reducible refine at_slot 9 ?_); (refine arm_build (o := ⟨some 9, _, _, _, _, _⟩) rfl _ _ rfl (u8s (hn 1)) (by simp only [List.map_toArray, List.map_cons, List.map_nil]; exact B1.out) ?_); try simp only [Act.put, List.setIfInBounds_toArray, List.set_cons_zero, List.set_cons_succ])
    | ((with_reducible refine at_slot 10 ?_); (refine arm_build (o := ⟨some 10, _, _, _, _, _⟩) rfl _ _ rfl (u8s (hm 0 1)) (by simp only [List.map_toArray, List.map_cons, List.map_nil]; exact B01.out) ?_); try simp only [Act.put, List.setIfInBounds_toArray, List.set_cons_zero, List.set_cons_succ])
    | ((with_reducible refine at_slot 11 ?_); (refine arm_build (o := ⟨some 11, _, _, _, _, _⟩) rfl _ _ rfl (kcs c) (by simp only [List.map_toArray, List.map_cons, List.map_nil]; exact BC.out) ?_); try simp only [Act.put, List.setIfInBounds_toArray, List.set_cons_zero, List.set_cons_succ])
    | ((with_reducible refine at_slot 3 ?_); (refine arm_alloc (o := ⟨some 3, _, _, _, _, _⟩) rfl _ rfl (kcs zk) z_key ?_); intro C v5 Ce hv5 nv5; try simp only [Act.put, List.setIfInBounds_toArray, List.set_cons_zero, List.set_cons_succ])
    | ((with_reducible refine arm_store (o := ⟨none, _, _, _, _, _⟩) rfl _ _ _ rfl C 0 rfl (kcs c) rfl _ _ (hv5) (fitK KC.out) (kcs_one _) (sz_key KC.out) ?_); intro v6 hv6 ov6 sv6; try simp only [Act.put, List.setIfInBounds_toArray, List.set_cons_zero, List.set_cons_succ])
    | ((with_reducible refine at_slot 12 ?_); (refine arm_build (o := ⟨some 12, _, _, _, _, _⟩) rfl _ _ rfl (u8s y) (by simp only [List.map_toArray, List.map_cons, List.map_nil]; exact B3.out) ?_); try simp only [Act.put, List.setIfInBounds_toArray, List.set_cons_zero, List.set_cons_succ]))
  have q0 := Ae.out
  have q1 := nv1.size
  have q2 := sv2.out
  have q3 := Be.out
  have q4 := nv3.size
  have q5 := sv4.out
  have q6 := Ce.out
  have q7 := nv5.size
  have q8 := sv6.out
  have lA : w.heap.size ≤ A := by omega
  have lB : w.heap.size ≤ B := by omega
  have nAB : A ≠ B := by omega
  have nBA : B ≠ A := by omega
  have lC : w.heap.size ≤ C := by omega
  have nAC : A ≠ C := by omega
  have nCA : C ≠ A := by omega
  have nBC : B ≠ C := by omega
  have nCB : C ≠ B := by omega
  have rA7 : Row v6 A 37 (kcs a) := (((((hv2.congr (allK KA.out)).old nv3.below).only ov4 nAB).old nv5.below).only ov6 nAC)
  have rB7 : Row v6 B 37 (kcs b) := (((hv4.congr (allK KB.out)).old nv5.below).only ov6 nBC)
  have rC7 : Row v6 C 37 (kcs c) := (hv6.congr (allK KC.out))
  have bel7 : Below w.heap.size w v6 := (below_only (below_step (below_only (below_step (below_only (below_step (Below.refl _ _) (by omega) nv1.below) ov2 lA (by omega)) (by omega) nv3.below) ov4 lB (by omega)) (by omega) nv5.below) ov6 lC (by omega))
  clear q0 q1 q2 q3 q4 q5 q6 q7 q8 Ae hv1 nv1 hv2 ov2 sv2 Be hv3 nv3 hv4 ov4 sv4 Ce hv5 nv5 hv6 ov6 sv6
  refine (CG.out _).mono ?_
  rintro e y8 ⟨rfl, hB⟩
  have rA8 : Row y8 A 37 (kcs a) := rA7.old hB
  have rB8 : Row y8 B 37 (kcs b) := rB7.old hB
  have rC8 : Row y8 C 37 (kcs c) := rC7.old hB
  have bel8 : Below w.heap.size w y8 := below_step bel7 bel7.size hB
  clear hB rA7 rB7 rC7 bel7
  go_wp2_with fail
  refine (CO.out _ (HKW.out _ bel8)).mono ?_
  rintro e y9 ⟨rfl, hB⟩
  have rA9 : Row y9 A 37 (kcs a) := rA8.old hB
  have rB9 : Row y9 B 37 (kcs b) := rB8.old hB
  have rC9 : Row y9 C 37 (kcs c) := rC8.old hB
  have bel9 : Below w.heap.size w y9 := below_step bel8 bel8.size hB
  clear hB rA8 rB8 rC8 bel8
  go_wp2_with (first
    | ((with_reducible refine at_slot 4 ?_); (refine arm_alloc (o := ⟨some 4, _, _, _, _, _⟩) rfl _ rfl (kcs zk) z_key ?_); intro G v10 Ge hv10 nv10; try simp only [Act.put, List.setIfInBounds_toArray, List.set_cons_zero, List.set_cons_succ])
    | ((with_reducible refine arm_store (o := ⟨none, _, _, _, _, _⟩) rfl _ _ _ rfl G 0 rfl (kcs kg) rfl _ _ (hv10) (fitK KK.out) (kcs_one _) (sz_key KK.out) ?_); intro v11 hv11 ov11 sv11; try simp only [Act.put, List.setIfInBounds_toArray, List.set_cons_zero, List.set_cons_succ])
    | ((with_reducible refine at_slot 15 ?_); (refine arm_load (o := ⟨some 15, _, _, _, _, _⟩) rfl _ _ rfl A 0 rfl (kcs a) ((show Has (kcs a) 0 (kcs a) from Has.refl _).range (((rA9.old nv10.below).only ov11 (by have := rA9.lt; have := Ge.out; have := nv10.size; have := sv11.out; omega)))) (sz_key KA.out) ?_); try simp only [Act.put, List.setIfInBounds_toArray, List.set_cons_zero, List.set_cons_succ])
    | ((with_reducible refine at_slot 16 ?_); (refine arm_load (o := ⟨some 16, _, _, _, _, _⟩) rfl _ _ rfl B 0 rfl (kcs b) ((show Has (kcs b) 0 (kcs b) from Has.refl _).range (((rB9.old nv10.below).only ov11 (by have := rB9.lt; have := Ge.out; have := nv10.size; have := sv11.out; omega)))) (sz_key KB.out) ?_); try simp only [Act.put, List.setIfInBounds_toArray, List.set_cons_zero, List.set_cons_succ]))
  have q0 := Ge.out
  have q1 := nv10.size
  have q2 := sv11.out
  have q3 := rA9.lt
  have q4 := rB9.lt
  have q5 := rC9.lt
  have q6 := bel9.size
  have lG : w.heap.size ≤ G := by omega
  have nAG : A ≠ G := by omega
  have nGA : G ≠ A := by omega
  have nBG : B ≠ G := by omega
  have nGB : G ≠ B := by omega
  have nCG : C ≠ G := by omega
  have nGC : G ≠ C := by omega
  have rA12 : Row v11 A 37 (kcs a) := ((rA9.old nv10.below).only ov11 nAG)
  have rB12 : Row v11 B 37 (kcs b) := ((rB9.old nv10.below).only ov11 nBG)
  have rC12 : Row v11 C 37 (kcs c) := ((rC9.old nv10.below).only ov11 nCG)
  have rG12 : Row v11 G 37 (kcs kg) := (hv11.congr (allK KK.out))
  have bel12 : Below w.heap.size w v11 := (below_only (below_step bel9 (by omega) nv10.below) ov11 lG (by omega))
  clear q0 q1 q2 q3 q4 q5 q6 rA9 rB9 rC9 bel9 Ge hv10 nv10 hv11 ov11 sv11
  refine (C1.out _).mono ?_
  rintro e y13 ⟨rfl, hB⟩
  have rA13 : Row y13 A 37 (kcs a) := rA12.old hB
  have rB13 : Row y13 B 37 (kcs b) := rB12.old hB
  have rC13 : Row y13 C 37 (kcs c) := rC12.old hB
  have rG13 : Row y13 G 37 (kcs kg) := rG12.old hB
  have bel13 : Below w.heap.size w y13 := below_step bel12 bel12.size hB
  clear hB rA12 rB12 rC12 rG12 bel12
  go_wp2_with (first
    | ((with_reducible refine at_slot 20 ?_); (refine arm_want (.agg (kcs c).toArray) 20 rfl (by kernel_rfl) (run_op_load _ _ rfl C 0 rfl (kcs c) ((show Has (kcs c) 0 (kcs c) from Has.refl _).range (rC13)) ((sz_key KC.out))) ?_); try simp only [Act.put, List.setIfInBounds_toArray, List.set_cons_zero, List.set_cons_succ])
    | ((with_reducible refine at_slot 21 ?_); (refine arm_want (.agg (kcs b).toArray) 21 rfl (by kernel_rfl) (run_op_load _ _ rfl B 0 rfl (kcs b) ((show Has (kcs b) 0 (kcs b) from Has.refl _).range (rB13)) ((sz_key KB.out))) ?_); try simp only [Act.put, List.setIfInBounds_toArray, List.set_cons_zero, List.set_cons_succ]))
  refine (C2.out _).mono ?_
  rintro e y14 ⟨rfl, hB⟩
  have rA14 : Row y14 A 37 (kcs a) := rA13.old hB
  have rB14 : Row y14 B 37 (kcs b) := rB13.old hB
  have rC14 : Row y14 C 37 (kcs c) := rC13.old hB
  have rG14 : Row y14 G 37 (kcs kg) := rG13.old hB
  have bel14 : Below w.heap.size w y14 := below_step bel13 bel13.size hB
  clear hB rA13 rB13 rC13 rG13 bel13
  go_wp2_with (first
    | ((with_reducible refine at_slot 26 ?_); (refine arm_want (.agg (kcs b).toArray) 26 rfl (by kernel_rfl) (run_op_load _ _ rfl B 0 rfl (kcs b) ((show Has (kcs b) 0 (kcs b) from Has.refl _).range (rB14)) ((sz_key KB.out))) ?_); try simp only [Act.put, List.setIfInBounds_toArray, List.set_cons_zero, List.set_cons_succ])
    | ((with_reducible refine at_slot 27 ?_); (refine arm_want (.agg (kcs b).toArray) 27 rfl (by kernel_rfl) (run_op_load _ _ rfl B 0 rfl (kcs b) ((show Has (kcs b) 0 (kcs b) from Has.refl _).range (rB14)) ((sz_key KB.out))) ?_); try simp only [Act.put, List.setIfInBounds_toArray, List.set_cons_zero, List.set_cons_succ]))
  refine (C3.out _).mono ?_
  rintro e y15 ⟨rfl, hB⟩
  have rA15 : Row y15 A 37 (kcs a) := rA14.old hB
  have rB15 : Row y15 B 37 (kcs b) := rB14.old hB
  have rC15 : Row y15 C 37 (kcs c) := rC14.old hB
  have rG15 : Row y15 G 37 (kcs kg) := rG14.old hB
  have bel15 : Below w.heap.size w y15 := below_step bel14 bel14.size hB
  clear hB rA14 rB14 rC14 rG14 bel14
  go_wp2_with (first
    | ((with_reducible refine at_slot 32 ?_); (refine arm_want (.agg (kcs a).toArray) 32 rfl (by kernel_rfl) (run_op_load _ _ rfl A 0 rfl (kcs a) ((show Has (kcs a) 0 (kcs a) from Has.refl _).range (rA15)) ((sz_key KA.out))) ?_); try simp only [Act.put, List.setIfInBounds_toArray, List.set_cons_zero, List.set_cons_succ])
    | ((with_reducible refine at_slot 33 ?_); (refine arm_want (.agg (kcs c).toArray) 33 rfl (by kernel_rfl) (run_op_load _ _ rfl C 0 rfl (kcs c) ((show Has (kcs c) 0 (kcs c) from Has.refl _).range (rC15)) ((sz_key KC.out))) ?_); try simp only [Act.put, List.setIfInBounds_toArray, List.set_cons_zero, List.set_cons_succ])
    | ((with_reducible refine at_slot 34 ?_); (refine arm_want (.agg (kcs b).toArray) 34 rfl (by kernel_rfl) (run_op_load _ _ rfl B 0 rfl (kcs b) ((show Has (kcs b) 0 (kcs b) from Has.refl _).range (rB15)) ((sz_key KB.out))) ?_); try simp only [Act.put, List.setIfInBounds_toArray, List.set_cons_zero, List.set_cons_succ])
    | ((with_reducible refine at_slot 35 ?_); (refine arm_want (.agg (kcs c).toArray) 35 rfl (by kernel_rfl) (run_op_load _ _ rfl C 0 rfl (kcs c) ((show Has (kcs c) 0 (kcs c) from Has.refl _).range (rC15)) ((sz_key KC.out))) ?_); try simp only [Act.put, List.setIfInBounds_toArray, List.set_cons_zero, List.set_cons_succ])
    | ((with_reducible refine at_slot 36 ?_); (refine arm_want2 (.slice (some ⟨y15.heap.size, 0, none⟩) 4 4) (y15.alloc (.cells (kK.all [a, c, b, c]).toArray 37)) 36 rfl (by kernel_rfl) (run_op_lit (K := kK) fK [a, c, b, c] O4.out (by simp) _ _ rfl rfl (by simp only [List.map_toArray, List.map_cons, List.map_nil]; rfl)) ?_); try simp only [Act.put, List.setIfInBounds_toArray, List.set_cons_zero, List.set_cons_succ]))
  clear rA15
  clear rB15
  clear rC15
  have hQ : Row (y15.alloc (.cells (kK.all [a, c, b, c]).toArray 37)) y15.heap.size 37 (kK.all [a, c, b, c]) := heap_alloc_new _ _
  have nQ : New y15 (y15.alloc (.cells (kK.all [a, c, b, c]).toArray 37)) := new_alloc _ _
  have gQ := rG15.old nQ.below
  have bQ := below_step bel15 bel15.size nQ.below
  clear rG15 bel15
  generalize y15.alloc (.cells (kK.all [a, c, b, c]).toArray 37) = wa at hQ nQ gQ bQ ⊢
  generalize y15.heap.size = Q at hQ ⊢
  clear nQ
  refine (C6.out _ Q (At.row fK O4.out hQ (List.append_nil _).symm)).mono ?_
  rintro e y17 ⟨rfl, hB⟩
  have rG17 : Row y17 G 37 (kcs kg) := gQ.old hB
  have bel17 : Below w.heap.size w y17 := below_step bQ bQ.size hB
  clear hB gQ bQ
  clear hQ
  go_wp2_with fail
  refine (C0.out _).mono ?_
  rintro e y18 ⟨rfl, hB⟩
  have rG18 : Row y18 G 37 (kcs kg) := rG17.old hB
  have bel18 : Below w.heap.size w y18 := below_step bel17 bel17.size hB
  clear hB rG17 bel17
  go_wp2_with (first
    | ((with_reducible refine at_slot 46 ?_); (refine arm_want (.int .u32 (kg.len : Int)) 46 rfl (by kernel_rfl) (run_op_load1 _ _ rfl (.int .u32) (by kernel_rfl) rfl ⟨G, 0, none⟩ rfl (.int .u32 (kg.len : Int)) (rG18.cell (show Has (kcs kg) 0 [.int .u32 (kg.len : Int)] from k0 kg).get)) ?_); try simp only [Act.put, List.setIfInBounds_toArray, List.set_cons_zero, List.set_cons_succ])
    | ((with_reducible refine at_slot 47 ?_); (refine arm_want (.bool true) 47 rfl (by kernel_rfl) (cmp_eql _ _ .u32 (by kernel_rfl) _ _ rfl .u32 (kg.len : Int) 1 rfl rfl true (decide_eq_true (by rw [KL.out]; rfl)) _) ?_); try simp only [Act.put, List.setIfInBounds_toArray, List.set_cons_zero, List.set_cons_succ])
    | ((with_reducible refine at_slot 50 ?_); (refine arm_want (.agg (u8s (hn 1)).toArray) 50 rfl (by kernel_rfl) (run_op_build _ _ rfl (u8s (hn 1)) (by simp only [List.map_toArray, List.map_cons, List.map_nil]; exact B1.out) _) ?_); try simp only [Act.put, List.setIfInBounds_toArray, List.set_cons_zero, List.set_cons_succ])
    | ((with_reducible refine at_slot 51 ?_); (refine arm_want (.agg (u8s (hm 0 255)).toArray) 51 rfl (by kernel_rfl) (run_op_build _ _ rfl (u8s (hm 0 255)) (by simp only [List.map_toArray, List.map_cons, List.map_nil]; exact B0255.out) _) ?_); try simp only [Act.put, List.setIfInBounds_toArray, List.set_cons_zero, List.set_cons_succ]))
  refine (C7.out _).mono ?_
  rintro e y19 ⟨rfl, hB⟩
  have rG19 : Row y19 G 37 (kcs kg) := rG18.old hB
  have bel19 : Below w.heap.size w y19 := below_step bel18 bel18.size hB
  clear hB rG18 bel18
  go_wp2_with fail
  go_ret
  exact ⟨rfl, bel19⟩
end Go.Proofs.YtffdmfclakgocaaDoor.Od
