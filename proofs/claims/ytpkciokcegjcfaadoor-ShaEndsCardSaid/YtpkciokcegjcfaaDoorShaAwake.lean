/-
  The contract of layer 2's awake, over this seat's translation: the calls whose answers the document fixes answer so: it returns true.
-/
import Derived.Test.YtpkciokcegjcfaaDoorShaEq
import Derived.Test.YtpkciokcegjcfaaDoorShaPad
namespace Go.Proofs.YtpkciokcegjcfaaDoor.Sha
open Go.ChangeShapes Go.WideShapes Go.ChangeAt Go.RowKit Go.Proofs.YtpkciokcegjcfaaDoor.Num Go.Proofs.YtpkciokcegjcfaaDoor.Mem
set_option linter.unusedVariables false

theorem digest_len (l : List Nat) : (digest l).length = 32 := outOf_len _
theorem dg_none0 : (digest []).getD 0 0 = 227 := by kernel_rfl
theorem dg_none31 : (digest []).getD 31 0 = 85 := by kernel_rfl
theorem dg_abc0 : (digest [97, 98, 99]).getD 0 0 = 186 := by kernel_rfl
theorem dg_abc1 : (digest [97, 98, 99]).getD 1 0 = 120 := by kernel_rfl
theorem dg_abc31 : (digest [97, 98, 99]).getD 31 0 = 173 := by kernel_rfl
theorem bs2 (u v : Int) (w : World) : (Instr.buildSlice 22 2 #[(0, .int .u8 u), (1, .int .u8 v)]).run Tryd.prog w = .ok (.slice (some ⟨w.heap.size, 0, none⟩) 2 2) (w.alloc (.cells #[.int .u8 u, .int .u8 v] 5)) := by kernel_rfl
theorem bs3 (u v x : Int) (w : World) : (Instr.buildSlice 22 3 #[(0, .int .u8 u), (1, .int .u8 v), (2, .int .u8 x)]).run Tryd.prog w = .ok (.slice (some ⟨w.heap.size, 0, none⟩) 3 3) (w.alloc (.cells #[.int .u8 u, .int .u8 v, .int .u8 x] 5)) := by kernel_rfl
theorem lt_nil : AllLt 256 [] := fun x hx => by cases hx
theorem lt_a : AllLt 256 [97] := by intro x hx; simp at hx; omega
theorem lt_bc : AllLt 256 [98, 99] := by intro x hx; simp at hx; omega
theorem lt_abc : AllLt 256 [97, 98, 99] := by intro x hx; simp at hx; omega

set_option maxHeartbeats 1000000 in
set_option maxRecDepth 100000 in
theorem awake_any (w : World) (hk : w.rangeAt 1 0 (u32s ks)) : Calls Tryd.prog 6 #[] w fun e w' => e = .returned (.bool true) ∧ Below w.heap.size w w' := by
  have HK := Lib.hid hk
  have hk1 : 1 < w.heap.size := range_lt hk (by simp [u32s, ks])
  clear hk
  go_enter Tryd.func6, Tryd.ntmps6
  go_wp2_with fail
  refine (new_any w).mono ?_
  rintro e w1 ⟨rfl, hR1, hN1⟩
  have lB : w.heap.size ≤ w.heap.size := Nat.le_refl _
  have z1 : w.heap.size + 1 ≤ w1.heap.size := by rw [hN1.size]; exact Nat.le_refl _
  have bel1 := hN1.below
  have n1 : 1 ≠ w.heap.size := by omega
  generalize hBe : w.heap.size = B at hR1 lB n1 ⊢
  have NK := Lib.hid n1; have HBE := Lib.hid hBe
  rw [← hBe] at lB
  clear hBe n1 hN1
  go_wp2_with fail
  refine (sum_any [] B w1 hR1 lt_nil (by simp) (range_block HK.out (bel1.block _ hk1))).mono ?_
  rintro e w2 ⟨rfl, hN2⟩
  have bel2 : Below w.heap.size w w2 := below_step bel1 (by omega) hN2
  have hRB2 := hR1.old hN2
  have z2 : w.heap.size + 1 ≤ w2.heap.size := Nat.le_trans z1 hN2.size
  have HD0 : Hid ((digest []).length = 32) := Lib.hid (digest_len _)
  clear hN2 bel1 hR1 z1 lB
  clear w1
  generalize hdn : digest [] = dn at HD0 ⊢
  have HDN := Lib.hid hdn; clear hdn
  go_wp2_with (first
    | ((with_reducible refine arm_alloc (o := ⟨some 2, _, _, _, _, _⟩) rfl _ rfl _ z25 ?_); intro Nn w3 hNn hR3 hN3)
    | ((with_reducible refine arm_store (o := ⟨none, _, _, _, _, _⟩) rfl _ _ _ rfl Nn 0 rfl (u8s dn) rfl _ _ hR3 (by rw [u8s_length, u8s_length, List.length_replicate, HD0.out]; omega) (u8s_one _) (by rw [u8s_length, HD0.out]; exact sz25) ?_); intro w4 hR4 hO4 hS4)
    | ((refine arm_buildSlice (o := ⟨some 10, _, _, _, _, _⟩) rfl 1 _ rfl [.int .u8 97] #[(0, .int .u8 97)] (by simp [Act.eval]) (bs1 97) ?_); intro b5 w5 hb5 hR5 hN5))
  have eN := hNn.out; have e5 := hb5.out; have s3 := hN3.size; have s4 := hS4.out; have s5 := hN5.size; have eB := HBE.out
  have bel5 : Below w.heap.size w w5 := below_step (below_only (below_step bel2 (by omega) hN3.below) hO4 (by omega) (by omega)) (by omega) hN5.below
  have hRB5 := ((hRB2.old hN3.below).only hO4 (by omega)).old hN5.below
  have hRN5 := (hR4.congr (lay_all _ _ (by rw [u8s_length, u8s_length, List.length_replicate, HD0.out]))).old hN5.below
  have nBN : B ≠ Nn := by omega
  have nB5 : b5 ≠ B := by omega
  have lN : w.heap.size + 1 ≤ Nn := by omega
  have z5 : w.heap.size + 1 ≤ w5.heap.size := by omega
  have NBN := Lib.hid nBN
  clear eN e5 s3 s4 s5 eB hNn hb5 hR3 hN3 hR4 hO4 hS4 hN5 bel2 hRB2 z2 w2 w3 w4 nBN
  refine (write_any [] [97] B 1 (some ⟨b5, 0, none⟩) w5 hRB5 lt_nil lt_a (by simp) (by simp) (fun _ => ⟨b5, 0, rfl, nB5, hR5.range 0 _ (fun j v hj => by rw [Nat.zero_add]; exact hj)⟩) (range_block HK.out (bel5.block _ hk1)) NK.out).mono ?_
  rintro e w6 ⟨rfl, hRB6, hO6⟩
  have bel6 : Below w.heap.size w w6 := below_only bel5 hO6 (by have := HBE.out; omega) (by omega)
  have hRN6 := hRN5.only hO6 (Ne.symm NBN.out)
  have z6 : w.heap.size + 1 ≤ w6.heap.size := Nat.le_trans z5 hO6.size
  clear hRB5 hRN5 hR5 hO6 bel5 z5 nB5 w5
  go_wp2_with (first
    | ((refine arm_buildSlice (o := ⟨some 13, _, _, _, _, _⟩) rfl 2 _ rfl [.int .u8 98, .int .u8 99] #[(0, .int .u8 98), (1, .int .u8 99)] (by simp [Act.eval]) (bs2 98 99) ?_); intro b7 w7 hb7 hR7 hN7))
  have e7 := hb7.out; have s7 := hN7.size; have eB := HBE.out
  have bel7 : Below w.heap.size w w7 := below_step bel6 (by omega) hN7.below
  have hRB7 := hRB6.old hN7.below
  have hRN7 := hRN6.old hN7.below
  have nB7 : b7 ≠ B := by omega
  have z7 : w.heap.size + 1 ≤ w7.heap.size := by omega
  clear e7 s7 eB hb7 hN7 hRB6 hRN6 bel6 z6 w6
  refine (write_any ([] ++ [97]) [98, 99] B 2 (some ⟨b7, 0, none⟩) w7 hRB7 lt_a lt_bc (by simp) (by simp) (fun _ => ⟨b7, 0, rfl, nB7, hR7.range 0 _ (fun j v hj => by rw [Nat.zero_add]; exact hj)⟩) (range_block HK.out (bel7.block _ hk1)) NK.out).mono ?_
  rintro e w8 ⟨rfl, hRB8, hO8⟩
  have bel8 : Below w.heap.size w w8 := below_only bel7 hO8 (by have := HBE.out; omega) (by omega)
  have hRN8 := hRN7.only hO8 (Ne.symm NBN.out)
  have z8 : w.heap.size + 1 ≤ w8.heap.size := Nat.le_trans z7 hO8.size
  clear hRB7 hRN7 hR7 hO8 bel7 z7 nB7 w7
  go_wp2_with (first
    | ((refine arm_buildSlice (o := ⟨some 15, _, _, _, _, _⟩) rfl 3 _ rfl [.int .u8 97, .int .u8 98, .int .u8 99] #[(0, .int .u8 97), (1, .int .u8 98), (2, .int .u8 99)] (by simp [Act.eval]) (bs3 97 98 99) ?_); intro b9 w9 hb9 hR9 hN9))
  have s9 := hN9.size
  have bel9 : Below w.heap.size w w9 := below_step bel8 (by omega) hN9.below
  have hRB9 := hRB8.old hN9.below
  have hRN9 := hRN8.old hN9.below
  have z9 : w.heap.size + 1 ≤ w9.heap.size := by omega
  clear s9 hb9 hN9 hRB8 hRN8 bel8 z8 w8
  refine (of_any [97, 98, 99] 3 (some ⟨b9, 0, none⟩) w9 lt_abc (by simp) (by simp) (fun _ => ⟨b9, 0, rfl, hR9.range 0 _ (fun j v hj => by rw [Nat.zero_add]; exact hj)⟩) (range_block HK.out (bel9.block _ hk1))).mono ?_
  rintro e w10 ⟨rfl, hN10⟩
  have bel10 : Below w.heap.size w w10 := below_step bel9 (by omega) hN10
  have hRB10 := hRB9.old hN10
  have hRN10 := hRN9.old hN10
  have z10 : w.heap.size + 1 ≤ w10.heap.size := Nat.le_trans z9 hN10.size
  have HD1 : Hid ((digest [97, 98, 99]).length = 32) := Lib.hid (digest_len _)
  clear hRB9 hRN9 hR9 hN10 bel9 z9 w9
  generalize hda : digest [97, 98, 99] = da at HD1 ⊢
  have HDA := Lib.hid hda; clear hda
  go_wp2_with (first
    | ((with_reducible refine arm_alloc (o := ⟨some 3, _, _, _, _, _⟩) rfl _ rfl _ z25 ?_); intro Ab w11 hAb hR11 hN11)
    | ((with_reducible refine arm_store (o := ⟨none, _, _, _, _, _⟩) rfl _ _ _ rfl Ab 0 rfl (u8s da) rfl _ _ hR11 (by rw [u8s_length, u8s_length, List.length_replicate, HD1.out]; omega) (u8s_one _) (by rw [u8s_length, HD1.out]; exact sz25) ?_); intro w12 hR12 hO12 hS12))
  have eA := hAb.out; have s11 := hN11.size; have eB := HBE.out; have rB := hRB10.lt; have rN := hRN10.lt
  have bel12 : Below w.heap.size w w12 := below_only (below_step bel10 (by omega) hN11.below) hO12 (by omega) (by omega)
  have hRB12 : Row w12 B 44 (hcells [97, 98, 99]) := (hRB10.old hN11.below).only hO12 (by omega)
  have hRN12 : Row w12 Nn 25 (u8s dn) := (hRN10.old hN11.below).only hO12 (by omega)
  have hRA12 : Row w12 Ab 25 (u8s da) := hR12.congr (lay_all _ _ (by rw [u8s_length, u8s_length, List.length_replicate, HD1.out]))
  have z12 : w.heap.size ≤ w12.heap.size := bel12.size
  clear eA s11 eB rB rN hAb hR11 hN11 hR12 hO12 hS12 hRB10 hRN10 bel10 z10 w10 w11
  simp only [Act.put, List.setIfInBounds_toArray, List.set_cons_zero, List.set_cons_succ]
  have cN0 : ∀ w', Below w12.heap.size w12 w' → w'.cell? ⟨Nn, 0, none⟩ = some (.int .u8 227) := fun w' hC => by
    have := (hRN12.old hC).cell (u8s_get (l := dn) (i := 0) (by rw [HD0.out]; omega)); rw [← HDN.out, dg_none0] at this; exact this
  have cN31 : ∀ w', Below w12.heap.size w12 w' → w'.cell? ⟨Nn, 31, none⟩ = some (.int .u8 85) := fun w' hC => by
    have := (hRN12.old hC).cell (u8s_get (l := dn) (i := 31) (by rw [HD0.out]; omega)); rw [← HDN.out, dg_none31] at this; exact this
  have cA0 : ∀ w', Below w12.heap.size w12 w' → w'.cell? ⟨Ab, 0, none⟩ = some (.int .u8 186) := fun w' hC => by
    have := (hRA12.old hC).cell (u8s_get (l := da) (i := 0) (by rw [HD1.out]; omega)); rw [← HDA.out, dg_abc0] at this; exact this
  have cA1 : ∀ w', Below w12.heap.size w12 w' → w'.cell? ⟨Ab, 1, none⟩ = some (.int .u8 120) := fun w' hC => by
    have := (hRA12.old hC).cell (u8s_get (l := da) (i := 1) (by rw [HD1.out]; omega)); rw [← HDA.out, dg_abc1] at this; exact this
  have cA31 : ∀ w', Below w12.heap.size w12 w' → w'.cell? ⟨Ab, 31, none⟩ = some (.int .u8 173) := fun w' hC => by
    have := (hRA12.old hC).cell (u8s_get (l := da) (i := 31) (by rw [HD1.out]; omega)); rw [← HDA.out, dg_abc31] at this; exact this
  have hkw : ∀ w', Below w12.heap.size w12 w' → w'.rangeAt 1 0 (u32s ks) := fun w' hC => range_block (range_block HK.out (bel12.block _ hk1)) (hC.block _ (by omega))
  have cOf : ∀ w', Below w12.heap.size w12 w' → Calls Tryd.prog 7 #[.slice none 0 0] w' fun e w'' => e = .returned (.agg (u8s dn).toArray) ∧ Below w12.heap.size w12 w'' := fun w' hC =>
    (of_any [] 0 none w' lt_nil (by simp) (by simp) (fun h => absurd rfl h) (hkw w' hC)).mono fun e w'' h => ⟨by rw [← HDN.out]; exact h.1, below_step hC hC.size h.2⟩
  have cSum : ∀ w', Below w12.heap.size w12 w' → Calls Tryd.prog 11 #[.pointer (some ⟨B, 0, none⟩)] w' fun e w'' => e = .returned (.agg (u8s da).toArray) ∧ Below w12.heap.size w12 w'' := fun w' hC =>
    (sum_any [97, 98, 99] B w' (hRB12.old hC) lt_abc (by simp) (hkw w' hC)).mono fun e w'' h => ⟨by rw [← HDA.out]; exact h.1, below_step hC hC.size h.2⟩
  refine wp_region_quiet (C := fun w' => Below w12.heap.size w12 w') (by kernel_rfl) (by kernel_rfl) ((Below.refl _ _).drew) ?_
  rw [List.toList_toArray]
  refine q_value 17 rfl (.agg (u8s dn).toArray) (by kernel_rfl) (fun w' hC => run_op_load _ _ rfl Nn 0 rfl _ ((hRN12.old hC).range 0 _ (fun j v hj => by rw [Nat.zero_add]; exact hj)) (by rw [u8s_length, HD0.out]; exact sz25)) ?_
  simp only [Act.put, List.setIfInBounds_toArray, List.set_cons_zero, List.set_cons_succ]
  refine q_call 18 rfl (.agg (u8s dn).toArray) 7 #[.slice none 0 0] (by kernel_rfl) (fun w' _ => run_op_call _ _ _ rfl _ (by simp only [List.map_toArray, List.map_cons, List.map_nil]; rfl) Tryd.func7 (by kernel_rfl) (by kernel_rfl) w') (fun w' hC => cOf w' hC) ?_
  simp only [Act.put, List.setIfInBounds_toArray, List.set_cons_zero, List.set_cons_succ]
  refine q_value 19 rfl (.bool true) (by kernel_rfl) (fun w' _ => run_op_eql _ _ _ rfl dn HD0.out rfl rfl w') ?_
  simp only [Act.put, List.setIfInBounds_toArray, List.set_cons_zero, List.set_cons_succ]
  refine q_value 20 rfl (.bool true) (by kernel_rfl) (fun w' _ => by kernel_rfl) ?_
  simp only [Act.put, List.setIfInBounds_toArray, List.set_cons_zero, List.set_cons_succ]
  refine q_value 21 rfl (.pointer (some ⟨Nn, 0, none⟩)) (by kernel_rfl) (fun w' _ => by kernel_rfl) ?_
  simp only [Act.put, List.setIfInBounds_toArray, List.set_cons_zero, List.set_cons_succ]
  refine q_value 22 rfl (.int .u8 227) (by kernel_rfl) (fun w' hC => run_op_load8 _ rfl _ rfl _ (cN0 w' hC)) ?_
  simp only [Act.put, List.setIfInBounds_toArray, List.set_cons_zero, List.set_cons_succ]
  refine q_value 23 rfl (.bool true) (by kernel_rfl) (fun w' _ => by kernel_rfl) ?_
  simp only [Act.put, List.setIfInBounds_toArray, List.set_cons_zero, List.set_cons_succ]
  refine q_value 24 rfl (.bool true) (by kernel_rfl) (fun w' _ => by kernel_rfl) ?_
  simp only [Act.put, List.setIfInBounds_toArray, List.set_cons_zero, List.set_cons_succ]
  refine q_value 25 rfl (.bool true) (by kernel_rfl) (fun w' _ => by kernel_rfl) ?_
  simp only [Act.put, List.setIfInBounds_toArray, List.set_cons_zero, List.set_cons_succ]
  refine q_value 26 rfl (.pointer (some ⟨Nn, 31, none⟩)) (by kernel_rfl) (fun w' _ => by kernel_rfl) ?_
  simp only [Act.put, List.setIfInBounds_toArray, List.set_cons_zero, List.set_cons_succ]
  refine q_value 27 rfl (.int .u8 85) (by kernel_rfl) (fun w' hC => run_op_load8 _ rfl _ rfl _ (cN31 w' hC)) ?_
  simp only [Act.put, List.setIfInBounds_toArray, List.set_cons_zero, List.set_cons_succ]
  refine q_value 28 rfl (.bool true) (by kernel_rfl) (fun w' _ => by kernel_rfl) ?_
  simp only [Act.put, List.setIfInBounds_toArray, List.set_cons_zero, List.set_cons_succ]
  refine q_value 29 rfl (.bool true) (by kernel_rfl) (fun w' _ => by kernel_rfl) ?_
  simp only [Act.put, List.setIfInBounds_toArray, List.set_cons_zero, List.set_cons_succ]
  refine q_value 30 rfl (.bool true) (by kernel_rfl) (fun w' _ => by kernel_rfl) ?_
  simp only [Act.put, List.setIfInBounds_toArray, List.set_cons_zero, List.set_cons_succ]
  refine q_value 31 rfl (.pointer (some ⟨Ab, 0, none⟩)) (by kernel_rfl) (fun w' _ => by kernel_rfl) ?_
  simp only [Act.put, List.setIfInBounds_toArray, List.set_cons_zero, List.set_cons_succ]
  refine q_value 32 rfl (.int .u8 186) (by kernel_rfl) (fun w' hC => run_op_load8 _ rfl _ rfl _ (cA0 w' hC)) ?_
  simp only [Act.put, List.setIfInBounds_toArray, List.set_cons_zero, List.set_cons_succ]
  refine q_value 33 rfl (.bool true) (by kernel_rfl) (fun w' _ => by kernel_rfl) ?_
  simp only [Act.put, List.setIfInBounds_toArray, List.set_cons_zero, List.set_cons_succ]
  refine q_value 34 rfl (.bool true) (by kernel_rfl) (fun w' _ => by kernel_rfl) ?_
  simp only [Act.put, List.setIfInBounds_toArray, List.set_cons_zero, List.set_cons_succ]
  refine q_value 35 rfl (.bool true) (by kernel_rfl) (fun w' _ => by kernel_rfl) ?_
  simp only [Act.put, List.setIfInBounds_toArray, List.set_cons_zero, List.set_cons_succ]
  refine q_value 36 rfl (.pointer (some ⟨Ab, 1, none⟩)) (by kernel_rfl) (fun w' _ => by kernel_rfl) ?_
  simp only [Act.put, List.setIfInBounds_toArray, List.set_cons_zero, List.set_cons_succ]
  refine q_value 37 rfl (.int .u8 120) (by kernel_rfl) (fun w' hC => run_op_load8 _ rfl _ rfl _ (cA1 w' hC)) ?_
  simp only [Act.put, List.setIfInBounds_toArray, List.set_cons_zero, List.set_cons_succ]
  refine q_value 38 rfl (.bool true) (by kernel_rfl) (fun w' _ => by kernel_rfl) ?_
  simp only [Act.put, List.setIfInBounds_toArray, List.set_cons_zero, List.set_cons_succ]
  refine q_value 39 rfl (.bool true) (by kernel_rfl) (fun w' _ => by kernel_rfl) ?_
  simp only [Act.put, List.setIfInBounds_toArray, List.set_cons_zero, List.set_cons_succ]
  refine q_value 40 rfl (.bool true) (by kernel_rfl) (fun w' _ => by kernel_rfl) ?_
  simp only [Act.put, List.setIfInBounds_toArray, List.set_cons_zero, List.set_cons_succ]
  refine q_value 41 rfl (.pointer (some ⟨Ab, 31, none⟩)) (by kernel_rfl) (fun w' _ => by kernel_rfl) ?_
  simp only [Act.put, List.setIfInBounds_toArray, List.set_cons_zero, List.set_cons_succ]
  refine q_value 42 rfl (.int .u8 173) (by kernel_rfl) (fun w' hC => run_op_load8 _ rfl _ rfl _ (cA31 w' hC)) ?_
  simp only [Act.put, List.setIfInBounds_toArray, List.set_cons_zero, List.set_cons_succ]
  refine q_value 43 rfl (.bool true) (by kernel_rfl) (fun w' _ => by kernel_rfl) ?_
  simp only [Act.put, List.setIfInBounds_toArray, List.set_cons_zero, List.set_cons_succ]
  refine q_value 44 rfl (.bool true) (by kernel_rfl) (fun w' _ => by kernel_rfl) ?_
  simp only [Act.put, List.setIfInBounds_toArray, List.set_cons_zero, List.set_cons_succ]
  refine q_value 45 rfl (.bool true) (by kernel_rfl) (fun w' _ => by kernel_rfl) ?_
  simp only [Act.put, List.setIfInBounds_toArray, List.set_cons_zero, List.set_cons_succ]
  refine q_value 46 rfl (.pointer (some ⟨B, 0, none⟩)) (by kernel_rfl) (fun w' _ => by kernel_rfl) ?_
  simp only [Act.put, List.setIfInBounds_toArray, List.set_cons_zero, List.set_cons_succ]
  refine q_call 47 rfl (.agg (u8s da).toArray) 11 #[.pointer (some ⟨B, 0, none⟩)] (by kernel_rfl) (fun w' _ => run_op_call _ _ _ rfl _ (by simp only [List.map_toArray, List.map_cons, List.map_nil]; rfl) Tryd.func11 (by kernel_rfl) (by kernel_rfl) w') (fun w' hC => cSum w' hC) ?_
  simp only [Act.put, List.setIfInBounds_toArray, List.set_cons_zero, List.set_cons_succ]
  refine q_value 48 rfl (.agg (u8s da).toArray) (by kernel_rfl) (fun w' hC => run_op_load _ _ rfl Ab 0 rfl _ ((hRA12.old hC).range 0 _ (fun j v hj => by rw [Nat.zero_add]; exact hj)) (by rw [u8s_length, HD1.out]; exact sz25)) ?_
  simp only [Act.put, List.setIfInBounds_toArray, List.set_cons_zero, List.set_cons_succ]
  refine q_value 49 rfl (.bool true) (by kernel_rfl) (fun w' _ => run_op_eql _ _ _ rfl da HD1.out rfl rfl w') ?_
  simp only [Act.put, List.setIfInBounds_toArray, List.set_cons_zero, List.set_cons_succ]
  refine q_value 50 rfl (.bool true) (by kernel_rfl) (fun w' _ => by kernel_rfl) ?_
  simp only [Act.put, List.setIfInBounds_toArray, List.set_cons_zero, List.set_cons_succ]
  refine q_value 51 rfl (.bool true) (by kernel_rfl) (fun w' _ => by kernel_rfl) ?_
  simp only [Act.put, List.setIfInBounds_toArray, List.set_cons_zero, List.set_cons_succ]
  refine q_value 52 rfl (.pointer (some ⟨B, 0, none⟩)) (by kernel_rfl) (fun w' _ => by kernel_rfl) ?_
  simp only [Act.put, List.setIfInBounds_toArray, List.set_cons_zero, List.set_cons_succ]
  refine q_call 53 rfl (.int .u64 3) 12 #[.pointer (some ⟨B, 0, none⟩)] (by kernel_rfl) (fun w' _ => run_op_call _ _ _ rfl _ (by simp only [List.map_toArray, List.map_cons, List.map_nil]; rfl) Tryd.func12 (by kernel_rfl) (by kernel_rfl) w') (fun w' hC => (len_any [97, 98, 99] B w' (hRB12.old hC)).mono fun e w'' h => ⟨h.1, h.2 ▸ hC⟩) ?_
  simp only [Act.put, List.setIfInBounds_toArray, List.set_cons_zero, List.set_cons_succ]
  refine q_value 54 rfl (.bool true) (by kernel_rfl) (fun w' _ => by kernel_rfl) ?_
  simp only [Act.put, List.setIfInBounds_toArray, List.set_cons_zero, List.set_cons_succ]
  refine q_value 55 rfl (.bool true) (by kernel_rfl) (fun w' _ => by kernel_rfl) ?_
  simp only [Act.put, List.setIfInBounds_toArray, List.set_cons_zero, List.set_cons_succ]
  refine q_value 0 rfl (.bool true) (by kernel_rfl) (fun w' _ => by kernel_rfl) ?_
  simp only [Act.put, List.setIfInBounds_toArray, List.set_cons_zero]
  refine wpQuiet_nil ?_
  intro w13 hC
  have belF : Below w.heap.size w w13 := below_step bel12 z12 hC
  clear cN0 cN31 cA0 cA1 cA31 hkw cOf cSum hRB12 hRN12 hRA12 bel12 hC
  go_wp2_with fail
  go_ret
  exact ⟨rfl, belF⟩
end Go.Proofs.YtpkciokcegjcfaaDoor.Sha
