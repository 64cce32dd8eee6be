/-
  The contract of layer 3's awake, over this seat's translation: the calls whose answers the document fixes answer so: it returns true.
-/
import Derived.Test.YtebfdbibeecncaaDoorTagMemoOf
namespace Go.Proofs.YtebfdbibeecncaaDoor.Tg
open Go.ChangeShapes Go.WideShapes Go.ChangeAt Go.RowKit Go.Proofs.YtebfdbibeecncaaDoor.Num Go.Proofs.YtebfdbibeecncaaDoor.Mem Go.Proofs.YtebfdbibeecncaaDoor.Bt Go.Proofs.YtebfdbibeecncaaDoor.Sha Go.Proofs.YtebfdbibeecncaaDoor.Mp
set_option linter.unusedVariables false

theorem digest_lt (l : List Nat) : AllLt 256 (digest l) := by
  intro x hx
  unfold digest outOf at hx
  obtain ⟨y, _, hy⟩ := List.mem_flatMap.1 hx
  exact bytes4_lt y x hy
theorem tagD_lt (s : ByteArray) (l : List (List Nat)) : AllLt 256 (tagD s l) := by
  unfold tagD; split
  · exact digest_lt _
  · intro x hx; have := List.eq_of_mem_replicate hx; omega
theorem bs9 (w : World) : (Instr.buildSlice 25 9 #[(0, .int .u8 1), (1, .int .u8 97), (2, .int .u8 1), (3, .int .u8 0), (4, .int .u8 0), (5, .int .u8 0), (6, .int .u8 2), (7, .int .u8 1), (8, .int .u8 2)]).run Tryd.prog w = .ok (.slice (some ⟨w.heap.size, 0, none⟩) 9 9) (w.alloc (.cells (u8s [1, 97, 1, 0, 0, 0, 2, 1, 2]).toArray 5)) := by kernel_rfl
theorem run_op_buildSlice {o : Oper} {a : Act} {w : World} (n : Nat) (parts : Array (Nat × Operand)) (ho : o.op = .buildSlice 25 n parts) (vs : List Value) (pv : Array (Nat × Value)) (hpv : (parts.map fun (i, x) => (i, a.eval x)) = pv)
    (hr : ∀ w : World, (Instr.buildSlice 25 n pv).run Tryd.prog w = .ok (.slice (some ⟨w.heap.size, 0, none⟩) n n) (w.alloc (.cells vs.toArray 5))) :
    (execOp a.eval o).run Tryd.prog w = .ok (.value (.slice (some ⟨w.heap.size, 0, none⟩) n n)) (w.alloc (.cells vs.toArray 5)) := by
  unfold execOp
  simp only [ho, hpv, Sem.run_bind, hr w, Result.andThen_ok, Sem.run_pure]
theorem parts_two {w w' : World} {b c : Nat} (h1 : Row w b 5 [.int .u8 1, .int .u8 2]) (hN : New w w') (h2 : Row w' c 25 [.slice (some ⟨b, 0, none⟩) 2 2]) : Parts w' (some ⟨c, 0, none⟩) [[1, 2]] :=
  parts_one (p := some ⟨b, 0, none⟩) (c := 2) (h := [1, 2]) h2 ⟨by simp, fun e => (by cases e), fun _ => ⟨b, 0, rfl, (h1.old hN.below).range 0 (u8s [1, 2]) (fun j v hj => by rw [Nat.zero_add]; exact hj)⟩, (by intro x hx; simp at hx; omega), by unfold maxLen; omega⟩
theorem im_a : image (bytesOf ⟨#[97]⟩) [[1, 2]] = [1, 97, 1, 0, 0, 0, 2, 1, 2] := by kernel_rfl
theorem tagD_a : tagD ⟨#[97]⟩ [[1, 2]] = digest [1, 97, 1, 0, 0, 0, 2, 1, 2] := by unfold tagD; rw [if_pos ⟨by decide, by decide⟩, im_a]
theorem lt_a : AllLt 256 [1, 97, 1, 0, 0, 0, 2, 1, 2] := by intro x hx; simp at hx; omega

theorem _root_.Go.Proofs.YtebfdbibeecncaaDoor.Bt.Own.came {w : World} {base : Nat} {p : Option Addr} {cap : Nat} {bs : List Nat} (h : Own w base p cap bs) (hl : AllLt 256 bs) : Came w p cap bs := by
  refine ⟨h.at.1, h.nil, h.bytes, hl, ?_⟩
  rcases h.own.2 with ⟨hv, _⟩ | ⟨g, cap', cur, hv, hg, hh, hc, hcm, _⟩
  · simp only [Value.slice.injEq] at hv; rw [hv.2.2]; exact Nat.zero_le _
  · simp only [Value.slice.injEq] at hv; rw [hv.2.2]; exact hcm
/-- Bytes do not lie in a map. -/
theorem _root_.Go.Proofs.YtebfdbibeecncaaDoor.Bt.Came.only_map {α : Type} {V : α → Value} {l : List (α × Value)} {w w' : World} {b : Nat} {p : Option Addr} {cap : Nat} {bs : List Nat} (h : Came w p cap bs) (hm : MapAt w b V l) (ho : Only b w w') : Came w' p cap bs := by
  refine ⟨h.cap_, h.nil_, fun hne => ?_, h.lt_, h.max_⟩
  obtain ⟨g, o, e, hr⟩ := h.at_ hne
  have hne' : u8s bs ≠ [] := by intro h; apply hne; simpa [u8s] using h
  have hg : g ≠ b := by
    rintro rfl
    obtain ⟨es, clock, hb, _⟩ := hm.ex
    obtain ⟨v, r, hv⟩ := List.exists_cons_of_ne_nil hne'
    have := hr 0 v (by rw [hv]; rfl)
    simp [World.cell?, hb] at this
  exact ⟨g, o, e, range_block hr (ho.block g (range_lt hr hne') hg)⟩

set_option maxHeartbeats 2000000 in
set_option maxRecDepth 100000 in
theorem awake_any (w : World) (hk : w.rangeAt 1 0 (u32s ks)) (hk2 : w.rangeAt 0 0 (u32s ks)) :
    Calls Tryd.prog 6 #[] w fun e w' => e = .returned (.bool true) ∧ Below w.heap.size w w' := by
  have hk1 : 1 < w.heap.size := range_lt hk (by simp [u32s, ks])
  have hk3 : 0 < w.heap.size := range_lt hk2 (by simp [u32s, ks])
  have HKW : Hid (∀ w', Below w.heap.size w w' → w'.rangeAt 1 0 (u32s ks)) := Lib.hid fun w' hb => range_block hk (hb.block _ hk1)
  have HKR : Hid (∀ w', Below w.heap.size w w' → w'.rangeAt 0 0 (u32s ks)) := Lib.hid fun w' hb => range_block hk2 (hb.block _ hk3)
  clear hk hk2
  go_enter Tryd.func6, Tryd.ntmps6
  go_wp2_with (first
    | ((with_reducible refine at_slot 7 ?_); (refine arm_buildSlice (o := ⟨some 7, _, _, _, _, _⟩) rfl 2 _ rfl [.int .u8 1, .int .u8 2] #[(0, .int .u8 1), (1, .int .u8 2)] (by simp [Act.eval]) (bs2 1 2) ?_); intro b1 w1 hb1 hR1 hN1)
    | ((with_reducible refine at_slot 8 ?_); (refine arm_one (o := ⟨some 8, _, _, _, _, _⟩) rfl _ rfl (some ⟨b1, 0, none⟩) 2 2 rfl ?_); intro b2 w2 hb2 hR2 hN2))
  have hp2 := parts_two hR1 hN2 hR2
  have bel2 : Below w.heap.size w w2 := below_step hN1.below hN1.below.size hN2.below
  clear hb1 hb2 hR1 hR2 hN1 hN2
  refine (img_short ⟨#[97]⟩ [[1, 2]] (some ⟨b2, 0, none⟩) 1 w2 (by decide) (by decide) (by decide) hp2).mono ?_
  rintro e w3 ⟨⟨p, cap, rfl, hOwn⟩, hB3⟩
  rw [im_a] at hOwn ⊢
  have bel3 : Below w.heap.size w w3 := below_step bel2 bel2.size hB3
  clear hp2 bel2 hB3
  go_wp2_with fail
  refine (newMemo_any 1 w3).mono ?_
  rintro e w4 ⟨⟨M, b, rfl, hM, hb, hMemo⟩, hB4⟩
  have bel4 : Below w.heap.size w w4 := below_step bel3 bel3.size hB4
  have hOwn4 := hOwn.below hB4
  have hbw : w.heap.size ≤ b := Nat.le_trans bel3.size hb
  clear hOwn bel3 hB4 hM hb
  go_wp2_with (first
    | ((with_reducible refine at_slot 15 ?_); (refine arm_buildSlice (o := ⟨some 15, _, _, _, _, _⟩) rfl 2 _ rfl [.int .u8 1, .int .u8 2] #[(0, .int .u8 1), (1, .int .u8 2)] (by simp [Act.eval]) (bs2 1 2) ?_); intro b5 w5 hb5 hR5 hN5)
    | ((with_reducible refine at_slot 16 ?_); (refine arm_one (o := ⟨some 16, _, _, _, _, _⟩) rfl _ rfl (some ⟨b5, 0, none⟩) 2 2 rfl ?_); intro b6 w6 hb6 hR6 hN6))
  have hp6 := parts_two hR5 hN6 hR6
  have bel6 : Below w.heap.size w w6 := below_step (below_step bel4 bel4.size hN5.below) (Nat.le_trans bel4.size hN5.below.size) hN6.below
  have hOwn6 := (hOwn4.below hN5.below).below hN6.below
  have hMemo6 := (hMemo.old hN5.below).old hN6.below
  clear hb5 hb6 hR5 hR6 hN5 hN6 bel4 hOwn4 hMemo
  refine (tagOf_any ⟨#[97]⟩ [[1, 2]] (some ⟨b6, 0, none⟩) 1 w6 (by decide) hp6 (HKW.out w6 bel6)).mono ?_
  have HDA := Lib.hid tagD_a
  have HDL := Lib.hid (tagD_len ⟨#[97]⟩ [[1, 2]])
  have HDT := Lib.hid (tagD_lt ⟨#[97]⟩ [[1, 2]])
  generalize tagD ⟨#[97]⟩ [[1, 2]] = da at HDA HDL HDT ⊢
  rintro e w7 ⟨rfl, hB7⟩
  have bel7 : Below w.heap.size w w7 := below_step bel6 bel6.size hB7
  have hOwn7 := hOwn6.below hB7
  have hMemo7 := hMemo6.old hB7
  clear hp6 bel6 hOwn6 hMemo6 hB7
  go_wp2_with (first
    | ((with_reducible refine at_slot 4 ?_); (refine arm_alloc (o := ⟨some 4, _, _, _, _, _⟩) rfl _ rfl _ z25 ?_); intro B8 w8 hB8 hR8 hN8)
    | ((with_reducible refine arm_store (o := ⟨none, _, _, _, _, _⟩) rfl _ _ _ rfl B8 0 rfl (u8s da) rfl _ _ hR8 (by rw [u8s_length, u8s_length, List.length_replicate, HDL.out]; omega) (u8s_one _) (by rw [u8s_length, HDL.out]; exact sz25) ?_); intro w9 hR9 hO9 hS9)
    | ((with_reducible refine at_slot 19 ?_); (refine arm_load (o := ⟨some 19, _, _, _, _, _⟩) rfl _ _ rfl B8 0 rfl (u8s da) ((hR9.congr (lay_all _ _ (by rw [u8s_length, u8s_length, List.length_replicate, HDL.out]))).range 0 _ (fun j v hj => by rw [Nat.zero_add]; exact hj)) (by rw [u8s_length, HDL.out]; exact sz25) ?_)))
  have eB8 := hB8.out
  have lB8 : w7.heap.size ≤ B8 := by omega
  have lw7 := bel7.size
  have bel9 : Below w.heap.size w w9 := below_only (below_step bel7 bel7.size hN8.below) hO9 (by omega) (Nat.le_trans bel7.size hN8.below.size)
  have bel79 : Below w7.heap.size w7 w9 := below_only hN8.below hO9 lB8 hN8.below.size
  have hR9' : Row w9 B8 32 (u8s da) := hR9.congr (lay_all _ _ (by rw [u8s_length, u8s_length, List.length_replicate, HDL.out]))
  have hMemo9 := hMemo7.old bel79
  have hC9 := (hOwn7.came lt_a).below bel79
  clear eB8 hB8 hR8 hN8 hR9 hO9 hS9 bel7 hOwn7 hMemo7 bel79
  have nkb : 1 ≠ b := by omega
  refine (memoOf_any (⟨#[98]⟩, da) HDL.out HDT.out M b 1 [] w9 hMemo9 (HKW.out w9 bel9) nkb).mono ?_
  have HG : Hid (grown [] 1 ((⟨#[98]⟩, da) : Key) = [(⟨#[98]⟩, da)]) := Lib.hid (by unfold grown; simp)
  rw [HG.out]
  have HXD : Hid (dV ((⟨#[98]⟩, da) : Key) = .agg (u8s (tagD ⟨#[98]⟩ [da])).toArray) := Lib.hid rfl
  rw [HXD.out]
  have HXL := Lib.hid (tagD_len ⟨#[98]⟩ [da])
  generalize hdx : tagD ⟨#[98]⟩ [da] = dx at HXL HXD ⊢
  have HDX := Lib.hid hdx; clear hdx
  rintro e wa ⟨rfl, hMemoA, hOA⟩
  have belA : Below w.heap.size w wa := below_only bel9 hOA hbw bel9.size
  have hCA := hC9.only_map hMemo9.map_ hOA
  have hRA := hR9'.only hOA (Ne.symm (hMemo9.map_.row hR9'))
  clear hC9 hR9' hMemo9 hOA bel9
  go_wp2_with (first
    | ((with_reducible refine at_slot 5 ?_); (refine arm_alloc (o := ⟨some 5, _, _, _, _, _⟩) rfl _ rfl _ z25 ?_); intro Bx wb hBx hRb hNb)
    | ((with_reducible refine arm_store (o := ⟨none, _, _, _, _, _⟩) rfl _ _ _ rfl Bx 0 rfl (u8s dx) rfl _ _ hRb (by rw [u8s_length, u8s_length, List.length_replicate, HXL.out]; omega) (u8s_one _) (by rw [u8s_length, HXL.out]; exact sz25) ?_); intro wc hRc hOc hSc))
  have eBx := hBx.out
  have belAc : Below wa.heap.size wa wc := below_only hNb.below hOc (by omega) hNb.below.size
  have belz : Below w.heap.size w wc.drew := (below_step belA belA.size belAc).trans ((Below.refl _ _).drew)
  have belAz : Below wa.heap.size wa wc.drew := belAc.trans ((Below.refl _ _).drew)
  have hRXz : Row wc.drew Bx 32 (u8s dx) := hRc.congr (lay_all _ _ (by rw [u8s_length, u8s_length, List.length_replicate, HXL.out]))
  have hRAz := hRA.old belAz
  have hCz := hCA.below belAz
  have hMz := hMemoA.old belAz
  clear eBx hBx hRb hNb hRc hOc hSc belAc belAz hRA hCA hMemoA belA
  refine wp_region_held (S := fun w' => Below wc.drew.heap.size wc.drew w') (by kernel_rfl) ?_
  change wpAnyH _ _ _ _ _ _ _ _ wc.drew
  generalize wc.drew = wz at belz hRXz hRAz hCz hMz ⊢
  have hS : Below wz.heap.size wz wz := Below.refl _ _
  have HCZ := Lib.hid hCz; clear hCz
  clear hbw lB8 lw7 nkb
  refine h_take 0 (.slice p 9 cap) rfl 21 rfl (by kernel_rfl) (by kernel_rfl) (by kernel_rfl) (by kernel_rfl) (fun _ _ _ h => h) (fun w' _ => by kernel_rfl) hS ?_
  simp only [Act.put, List.setIfInBounds_toArray, List.set_cons_zero, List.set_cons_succ]
  refine h_one (i := 1) (by kernel_rfl) (o_value _ rfl 22 rfl (by kernel_rfl) (run_op_buildSlice 9 _ rfl (u8s [1, 97, 1, 0, 0, 0, 2, 1, 2]) _ (by simp only [List.map_toArray, List.map_cons, List.map_nil]; rfl) bs9) ?_)
  have hN1 := new_alloc wz (.cells (u8s [1, 97, 1, 0, 0, 0, 2, 1, 2]).toArray 5)
  have hR1 : Row (wz.alloc (.cells (u8s [1, 97, 1, 0, 0, 0, 2, 1, 2]).toArray 5)) wz.heap.size 5 (u8s [1, 97, 1, 0, 0, 0, 2, 1, 2]) := heap_alloc_new _ _
  generalize wz.alloc (.cells (u8s [1, 97, 1, 0, 0, 0, 2, 1, 2]).toArray 5) = y1 at hN1 hR1 ⊢
  have hS1 := hN1.below
  refine ⟨hS1, ?_⟩
  simp only [Act.put, List.setIfInBounds_toArray, List.set_cons_zero, List.set_cons_succ]
  refine h_one (i := 2) (by kernel_rfl) (o_call rfl 23 rfl (by kernel_rfl) (run_op_call 10 _ _ rfl #[.slice p 9 cap, .slice (some ⟨wz.heap.size, 0, none⟩) 9 9] (by simp only [List.map_toArray, List.map_cons, List.map_nil]; rfl) Tryd.func10 (by kernel_rfl) (by kernel_rfl) y1) (same_any [1, 97, 1, 0, 0, 0, 2, 1, 2] [1, 97, 1, 0, 0, 0, 2, 1, 2] p (some ⟨wz.heap.size, 0, none⟩) cap 9 y1 (HCZ.out.below hS1).rd ⟨fun _ => ⟨_, 0, rfl, hR1.range 0 _ (fun j v hj => by rw [Nat.zero_add]; exact hj)⟩⟩ (by simp) (by simp)) ?_)
  rintro e y2 ⟨rfl, hB2⟩
  have hS2 : Below wz.heap.size wz y2 := below_step hS1 hS1.size hB2
  refine ⟨_, rfl, hS2, ?_⟩
  clear hN1 hR1 hS1 hB2
  rw [decide_eq_true (rfl : [1, 97, 1, 0, 0, 0, 2, 1, 2] = [1, 97, 1, 0, 0, 0, 2, 1, 2])]
  simp only [Act.put, List.setIfInBounds_toArray, List.set_cons_zero, List.set_cons_succ]
  refine h_take 3 (.bool true) rfl 24 rfl (by kernel_rfl) (by kernel_rfl) (by kernel_rfl) (by kernel_rfl) (fun _ _ _ h => h) (fun w' _ => by kernel_rfl) hS2 ?_
  simp only [Act.put, List.setIfInBounds_toArray, List.set_cons_zero, List.set_cons_succ]
  refine h_take 4 (.int .i64 0) rfl 25 rfl (by kernel_rfl) (by kernel_rfl) (by kernel_rfl) (by kernel_rfl) (fun _ _ _ h => h) (fun w' _ => by kernel_rfl) hS2 ?_
  simp only [Act.put, List.setIfInBounds_toArray, List.set_cons_zero, List.set_cons_succ]
  refine h_take 5 (.bool true) rfl 26 rfl (by kernel_rfl) (by kernel_rfl) (by kernel_rfl) (by kernel_rfl) (fun _ _ _ h => h) (fun w' _ => by kernel_rfl) hS2 ?_
  simp only [Act.put, List.setIfInBounds_toArray, List.set_cons_zero, List.set_cons_succ]
  refine h_take 6 (.bool true) rfl 27 rfl (by kernel_rfl) (by kernel_rfl) (by kernel_rfl) (by kernel_rfl) (fun _ _ _ h => h) (fun w' _ => by kernel_rfl) hS2 ?_
  simp only [Act.put, List.setIfInBounds_toArray, List.set_cons_zero, List.set_cons_succ]
  refine h_take 7 (.bool true) rfl 28 rfl (by kernel_rfl) (by kernel_rfl) (by kernel_rfl) (by kernel_rfl) (fun _ _ _ h => h) (fun w' _ => by kernel_rfl) hS2 ?_
  simp only [Act.put, List.setIfInBounds_toArray, List.set_cons_zero, List.set_cons_succ]
  refine h_take 8 (.agg (u8s da).toArray) rfl 29 rfl (by kernel_rfl) (by kernel_rfl) (by kernel_rfl) (by kernel_rfl) (fun _ _ _ h => h) (fun w' hC => run_op_load _ _ rfl B8 0 rfl (u8s da) ((hRAz.old hC).range 0 _ (fun j v hj => by rw [Nat.zero_add]; exact hj)) (by rw [u8s_length, HDL.out]; exact sz25)) hS2 ?_
  simp only [Act.put, List.setIfInBounds_toArray, List.set_cons_zero, List.set_cons_succ]
  refine h_take 9 (.slice p 9 cap) rfl 30 rfl (by kernel_rfl) (by kernel_rfl) (by kernel_rfl) (by kernel_rfl) (fun _ _ _ h => h) (fun w' _ => by kernel_rfl) hS2 ?_
  simp only [Act.put, List.setIfInBounds_toArray, List.set_cons_zero, List.set_cons_succ]
  refine h_one (i := 10) (by kernel_rfl) (o_call rfl 31 rfl (by kernel_rfl) (run_op_call 16 _ _ rfl #[.slice p 9 cap] (by simp only [List.map_toArray, List.map_cons, List.map_nil]; rfl) Tryd.func16 (by kernel_rfl) (by kernel_rfl) y2) (refOf_any [1, 97, 1, 0, 0, 0, 2, 1, 2] p cap y2 lt_a (by simp) HCZ.out.cap_ HCZ.out.nil_ (HCZ.out.below hS2).at_ (HKR.out y2 (below_step belz belz.size hS2))) ?_)
  rw [← HDA.out]
  rintro e y3 ⟨rfl, hB3⟩
  have hS3 : Below wz.heap.size wz y3 := below_step hS2 hS2.size hB3
  refine ⟨_, rfl, hS3, ?_⟩
  clear hS2 hB3
  simp only [Act.put, List.setIfInBounds_toArray, List.set_cons_zero, List.set_cons_succ]
  refine h_take 11 (.bool true) rfl 32 rfl (by kernel_rfl) (by kernel_rfl) (by kernel_rfl) (by kernel_rfl) (fun _ _ _ h => h) (fun w' _ => run_op_eql _ _ _ rfl da HDL.out rfl rfl w') hS3 ?_
  simp only [Act.put, List.setIfInBounds_toArray, List.set_cons_zero, List.set_cons_succ]
  refine h_take 12 (.bool true) rfl 33 rfl (by kernel_rfl) (by kernel_rfl) (by kernel_rfl) (by kernel_rfl) (fun _ _ _ h => h) (fun w' _ => by kernel_rfl) hS3 ?_
  simp only [Act.put, List.setIfInBounds_toArray, List.set_cons_zero, List.set_cons_succ]
  refine h_take 13 (.bool true) rfl 34 rfl (by kernel_rfl) (by kernel_rfl) (by kernel_rfl) (by kernel_rfl) (fun _ _ _ h => h) (fun w' _ => by kernel_rfl) hS3 ?_
  simp only [Act.put, List.setIfInBounds_toArray, List.set_cons_zero, List.set_cons_succ]
  refine h_take 14 (.agg (u8s dx).toArray) rfl 35 rfl (by kernel_rfl) (by kernel_rfl) (by kernel_rfl) (by kernel_rfl) (fun _ _ _ h => h) (fun w' hC => run_op_load _ _ rfl Bx 0 rfl (u8s dx) ((hRXz.old hC).range 0 _ (fun j v hj => by rw [Nat.zero_add]; exact hj)) (by rw [u8s_length, HXL.out]; exact sz25)) hS3 ?_
  simp only [Act.put, List.setIfInBounds_toArray, List.set_cons_zero, List.set_cons_succ]
  refine h_take 15 (.slice (some ⟨B8, 0, none⟩) 32 32) rfl 36 rfl (by kernel_rfl) (by kernel_rfl) (by kernel_rfl) (by kernel_rfl) (fun _ _ _ h => h) (fun w' _ => run_op_sliceAll _ _ rfl 32 5 (by kernel_rfl) (by kernel_rfl) B8 0 rfl (by omega) w') hS3 ?_
  simp only [Act.put, List.setIfInBounds_toArray, List.set_cons_zero, List.set_cons_succ]
  refine h_one (i := 16) (by kernel_rfl) (o_value _ rfl 37 rfl (by kernel_rfl) (run_op_one _ rfl (some ⟨B8, 0, none⟩) 32 32 rfl _) ?_)
  have hN4 := new_alloc y3 (.cells #[.slice (some ⟨B8, 0, none⟩) 32 32] 25)
  have hR4 : Row (y3.alloc (.cells #[.slice (some ⟨B8, 0, none⟩) 32 32] 25)) y3.heap.size 25 [.slice (some ⟨B8, 0, none⟩) 32 32] := heap_alloc_new _ _
  generalize y3.alloc (.cells #[.slice (some ⟨B8, 0, none⟩) 32 32] 25) = y4 at hN4 hR4 ⊢
  have hS4 : Below wz.heap.size wz y4 := below_step hS3 hS3.size hN4.below
  refine ⟨hS4, ?_⟩
  simp only [Act.put, List.setIfInBounds_toArray, List.set_cons_zero, List.set_cons_succ]
  have hpt : Parts y4 (some ⟨y3.heap.size, 0, none⟩) [da] := parts_one (p := some ⟨B8, 0, none⟩) (c := 32) (by rw [HDL.out]; exact hR4) (came_row (t := 32) ((hRAz.old hS4).range 0 _ (fun j v hj => by rw [Nat.zero_add]; exact hj)) HDL.out HDT.out)
  refine h_one (i := 17) (by kernel_rfl) (o_call rfl 38 rfl (by kernel_rfl) (run_op_call 11 _ _ rfl #[.string ⟨#[98]⟩, .slice (some ⟨y3.heap.size, 0, none⟩) 1 1] (by simp only [List.map_toArray, List.map_cons, List.map_nil]; rfl) Tryd.func11 (by kernel_rfl) (by kernel_rfl) y4) (tagOf_any ⟨#[98]⟩ [da] (some ⟨y3.heap.size, 0, none⟩) 1 y4 (by simp [total, HDL.out]) hpt (HKW.out y4 (below_step belz belz.size hS4))) ?_)
  rw [HDX.out]
  rintro e y5 ⟨rfl, hB5⟩
  have hS5 : Below wz.heap.size wz y5 := below_step hS4 hS4.size hB5
  refine ⟨_, rfl, hS5, ?_⟩
  clear hpt hS3 hN4 hR4 hS4 hB5
  simp only [Act.put, List.setIfInBounds_toArray, List.set_cons_zero, List.set_cons_succ]
  refine h_take 18 (.bool true) rfl 39 rfl (by kernel_rfl) (by kernel_rfl) (by kernel_rfl) (by kernel_rfl) (fun _ _ _ h => h) (fun w' _ => run_op_eql _ _ _ rfl dx HXL.out rfl rfl w') hS5 ?_
  simp only [Act.put, List.setIfInBounds_toArray, List.set_cons_zero, List.set_cons_succ]
  refine h_take 19 (.bool true) rfl 40 rfl (by kernel_rfl) (by kernel_rfl) (by kernel_rfl) (by kernel_rfl) (fun _ _ _ h => h) (fun w' _ => by kernel_rfl) hS5 ?_
  simp only [Act.put, List.setIfInBounds_toArray, List.set_cons_zero, List.set_cons_succ]
  refine h_take 20 (.bool true) rfl 41 rfl (by kernel_rfl) (by kernel_rfl) (by kernel_rfl) (by kernel_rfl) (fun _ _ _ h => h) (fun w' _ => by kernel_rfl) hS5 ?_
  simp only [Act.put, List.setIfInBounds_toArray, List.set_cons_zero, List.set_cons_succ]
  refine h_take 21 (.pointer (some ⟨M, 0, none⟩)) rfl 42 rfl (by kernel_rfl) (by kernel_rfl) (by kernel_rfl) (by kernel_rfl) (fun _ _ _ h => h) (fun w' _ => by kernel_rfl) hS5 ?_
  simp only [Act.put, List.setIfInBounds_toArray, List.set_cons_zero, List.set_cons_succ]
  refine h_one (i := 22) (by kernel_rfl) (o_call rfl 43 rfl (by kernel_rfl) (run_op_call 15 _ _ rfl #[.pointer (some ⟨M, 0, none⟩)] (by simp only [List.map_toArray, List.map_cons, List.map_nil]; rfl) Tryd.func15 (by kernel_rfl) (by kernel_rfl) y5) (known_any M b 1 _ y5 (hMz.old hS5)) ?_)
  rintro e y6 ⟨rfl, rfl⟩
  refine ⟨_, rfl, hS5, ?_⟩
  simp only [Act.put, List.setIfInBounds_toArray, List.set_cons_zero, List.set_cons_succ]
  refine h_take 23 (.bool true) rfl 44 rfl (by kernel_rfl) (by kernel_rfl) (by kernel_rfl) (by kernel_rfl) (fun _ _ _ h => h) (fun w' _ => by kernel_rfl) hS5 ?_
  simp only [Act.put, List.setIfInBounds_toArray, List.set_cons_zero, List.set_cons_succ]
  refine h_take 24 (.bool true) rfl 45 rfl (by kernel_rfl) (by kernel_rfl) (by kernel_rfl) (by kernel_rfl) (fun _ _ _ h => h) (fun w' _ => by kernel_rfl) hS5 ?_
  simp only [Act.put, List.setIfInBounds_toArray, List.set_cons_zero, List.set_cons_succ]
  refine h_take 25 (.bool true) rfl 0 rfl (by kernel_rfl) (by kernel_rfl) (by kernel_rfl) (by kernel_rfl) (fun _ _ _ h => h) (fun w' _ => by kernel_rfl) hS5 ?_
  simp only [Act.put, List.setIfInBounds_toArray, List.set_cons_zero]
  refine wpAnyH_done (by kernel_rfl) ?_ _
  have belF : Below w.heap.size w y5 := below_step belz belz.size hS5
  clear hS hS5 belz hRXz hRAz HCZ hMz
  go_wp2_with fail
  go_ret
  exact ⟨rfl, belF⟩
end Go.Proofs.YtebfdbibeecncaaDoor.Tg
