/-
  The contract of tag's Memo.Of, over this seat's translation.
-/
import Derived.Test.YtebfdbibeecncaaDoorTagMemo
namespace Go.Proofs.YtebfdbibeecncaaDoor.Tg
open Go.ChangeShapes Go.WideShapes Go.ChangeAt Go.RowKit Go.Proofs.YtebfdbibeecncaaDoor.Num Go.Proofs.YtebfdbibeecncaaDoor.Mem Go.Proofs.YtebfdbibeecncaaDoor.Bt Go.Proofs.YtebfdbibeecncaaDoor.Sha Go.Proofs.YtebfdbibeecncaaDoor.Mp
set_option linter.unusedVariables false

section
variable {P : Program} {ops : Array Oper} {rest : List Oper} {o : Oper} {a : Act} {w : World} {Q : Exit → Act → World → Prop}
theorem run_sliceAll (t : TypeId) (n : Nat) (e : TypeId) (hu : P.underlying t = some (.array n e)) (hse : (P.info? e).map (·.size) = some 1) (b off : Nat) (hn : 0 < n) (w : World) :
    (Instr.sliceAt t (.pointer (some ⟨b, off, none⟩)) none none none).run P w = .ok (.slice (some ⟨b, off, none⟩) n n) w := by
  cases hq : P.info? e with
  | none => simp [hq] at hse
  | some ie =>
    simp [Instr.sliceAt, run_underlying hu, Instr.sureAddr, Instr.sliceBounds, sizeOf, typeInfo, hq, Addr.add]
theorem run_op_sliceAll (t : TypeId) (x : Operand) (ho : o.op = .slice t x none none none) (n : Nat) (e : TypeId) (hu : P.underlying t = some (.array n e)) (hse : (P.info? e).map (·.size) = some 1)
    (b off : Nat) (hx : a.eval x = .pointer (some ⟨b, off, none⟩)) (hn : 0 < n) (w : World) : (execOp a.eval o).run P w = .ok (.value (.slice (some ⟨b, off, none⟩) n n)) w := by
  unfold execOp
  simp only [ho, hx, Option.map_none, Sem.run_bind, run_sliceAll t n e hu hse b off hn, Result.andThen_ok, Sem.run_pure]
/-- 'x[:]' of an array. -/
theorem arm_sliceAll (hgd : o.guard = none) (t : TypeId) (x : Operand) (ho : o.op = .slice t x none none none) (n : Nat) (e : TypeId) (hu : P.underlying t = some (.array n e)) (hse : (P.info? e).map (·.size) = some 1)
    (b off : Nat) (hx : a.eval x = .pointer (some ⟨b, off, none⟩)) (hn : 0 < n) (h : wpList P ops Q rest (a.put o.dst (.slice (some ⟨b, off, none⟩) n n)) w) : wpList P ops Q (o :: rest) a w := by
  refine wpList_plain hgd fun K hK => ?_
  unfold Oper.wp
  rw [run_op_sliceAll t x ho n e hu hse b off hx hn]
  exact hK _ _ h
end
theorem run_one (p : Option Addr) (n c : Nat) (w : World) : (Instr.buildSlice 22 1 #[(0, .slice p n c)]).run Tryd.prog w = .ok (.slice (some ⟨w.heap.size, 0, none⟩) 1 1) (w.alloc (.cells #[.slice p n c] 25)) := by kernel_rfl
section
variable {ops : Array Oper} {rest : List Oper} {o : Oper} {a : Act} {w : World} {Q : Exit → Act → World → Prop}
theorem run_op_one (x : Operand) (ho : o.op = .buildSlice 22 1 #[(0, x)]) (p : Option Addr) (n c : Nat) (hx : a.eval x = .slice p n c) (w : World) :
    (execOp a.eval o).run Tryd.prog w = .ok (.value (.slice (some ⟨w.heap.size, 0, none⟩) 1 1)) (w.alloc (.cells #[.slice p n c] 25)) := by
  unfold execOp
  simp only [ho, List.map_toArray, List.map_cons, List.map_nil, hx, Sem.run_bind, run_one, Result.andThen_ok, Sem.run_pure]
/-- '[][]byte{x}'. -/
theorem arm_one (hgd : o.guard = none) (x : Operand) (ho : o.op = .buildSlice 22 1 #[(0, x)]) (p : Option Addr) (n c : Nat) (hx : a.eval x = .slice p n c)
    (h : ∀ b w2, Hid (b = w.heap.size) → Row w2 b 25 [.slice p n c] → New w w2 → wpList Tryd.prog ops Q rest (a.put o.dst (.slice (some ⟨b, 0, none⟩) 1 1)) w2) : wpList Tryd.prog ops Q (o :: rest) a w := by
  refine wpList_plain hgd fun K hK => ?_
  unfold Oper.wp
  rw [run_op_one x ho p n c hx]
  exact hK _ _ (h _ _ rfl (heap_alloc_new _ _) (new_alloc _ _))
end
/-- A row of one part. -/
theorem parts_one {w : World} {b : Nat} {p : Option Addr} {c : Nat} {h : List Nat} (hr : Row w b 25 [.slice p h.length c]) (hc : Came w p c h) : Parts w (some ⟨b, 0, none⟩) [h] :=
  ⟨fun _ => ⟨b, 0, rfl, hr.lt, fun i hi => by
    obtain rfl : i = 0 := by simpa using hi
    exact ⟨p, c, hr.cell rfl, hc⟩⟩⟩
theorem came_row {w : World} {b : Nat} {t : TypeId} {h : List Nat} (hr : w.rangeAt b 0 (u8s h)) (hl : h.length = 32) (hlt : AllLt 256 h) : Came w (some ⟨b, 0, none⟩) 32 h :=
  ⟨by omega, fun e => (by cases e), fun _ => ⟨b, 0, rfl, hr⟩, hlt, by unfold maxLen; omega⟩
theorem fieldM1 (b : Nat) (w : World) : (Instr.fieldAt 53 (.pointer (some ⟨b, 0, none⟩)) 1).run Tryd.prog w = .ok (.pointer (some ⟨b, 1, none⟩)) w := by kernel_rfl
theorem fieldM0 (b : Nat) (w : World) : (Instr.fieldAt 53 (.pointer (some ⟨b, 0, none⟩)) 0).run Tryd.prog w = .ok (.pointer (some ⟨b, 0, none⟩)) w := by kernel_rfl
theorem only_new {w w1 w2 : World} {b R : Nat} (h : Only b w w1) (g : Only R w1 w2) (hR : w.heap.size ≤ R) : Only b w w2 :=
  ⟨g.os.trans h.os, g.tape.trans h.tape, g.output.trans h.output, Nat.le_trans h.size g.size, fun k hk hn => (g.block k (Nat.lt_of_lt_of_le hk h.size) (by omega)).trans (h.block k hk hn)⟩
section
variable {P : Program} {ops : Array Oper} {o : Oper} {a : Act} {w : World} {Q : Exit → Act → World → Prop}
variable {α : Type} [DecidableEq α] {b : Nat} {V : α → Value} {l : List (α × Value)} {kt : TypeId} {ok : α → Prop}
/-- 'm[k] = v' at a key that is not there, in a region that draws its order. -/
theorem o_update {i : Nat} {K : Act → World → Prop} (hi : ops[i]? = some o) (hd : o.dst = none) (hg : Region.wanted o (yielded ops a.tmps) = true) (t : TypeId) (x y v : Operand) (ho : o.op = .mapUpdate t x y v) (hx : a.eval x = .map (some b)) (k : α) (hk : ok k) (hy : a.eval y = V k) (u : Value) (hv : a.eval v = u)
    (hm : MapAt w b V l) (KK : KeyKind P kt V ok) {e : TypeId} (ht : P.underlying t = some (.map kt e)) (hok : ∀ p ∈ l, ok p.1) (hno : Mp.look l k = none) (h : ∀ w', MapAt w' b V (l ++ [(k, u)]) → Only b w w' → Hid (w'.heap.size = w.heap.size) → K a w') : wpOp P ops Q i K a w := by
  obtain ⟨w', hr, h1, h2, h3⟩ := run_op_update t x y v ho hx k hk hy u hv hm KK ht hok hno
  exact o_skip hi hd hg hr (h w' h1 h2 h3)
end
open Classical in
/-- What Memo.Of leaves of what is known. -/
noncomputable def grown (K : List Key) (room : Int) (x : Key) : List Key := if x ∈ K then K else if (K.length : Int) < room then K ++ [x] else K

set_option maxHeartbeats 1000000 in
set_option maxRecDepth 100000 in
theorem memoOf_any (x : Key) (hx : keyOk x) (hlt : AllLt 256 x.2) (M b : Nat) (room : Int) (K : List Key) (w : World) (h : MemoAt w M b room K) (hk : w.rangeAt 1 0 (u32s ks)) (hkb : 1 ≠ b) :
    Calls Tryd.prog 14 #[.pointer (some ⟨M, 0, none⟩), .string x.1, .agg (u8s x.2).toArray] w fun e w' => e = .returned (dV x) ∧ MemoAt w' M b room (grown K room x) ∧ Only b w w' := by
  have H := Lib.hid h; have HK := Lib.hid hk
  have hk1 : 1 < w.heap.size := range_lt hk (by simp [u32s, ks])
  have HX := Lib.hid hx; have HXL := Lib.hid hlt
  have HBK := Lib.hid (built_key x hx)
  have HKL := Lib.hid (keyCells_len x hx)
  have hM1 := h.row.lt
  have hb1 := h.map_.lt
  clear h hk hx hlt
  obtain ⟨s, hh⟩ := x
  have HH : Hid (hh.length = 32) := HX
  obtain ⟨kc, hkc⟩ : ∃ kc, kc = keyCells (s, hh) := ⟨_, rfl⟩
  rw [← hkc] at HBK HKL
  have HKC := Lib.hid hkc; clear hkc
  have HK1 : Hid (OneCells kc) := Lib.hid (by rw [HKC.out]; exact keyCells_one _)
  go_enter Tryd.func14, Tryd.ntmps14
  go_wp2_with (first
    | ((with_reducible refine at_slot 5 ?_); (refine arm_box (o := ⟨some 5, _, _, _, _, _⟩) rfl _ _ rfl (u8s hh) rfl ?_); intro B5 w1 hB5 hR1 hN1)
    | ((with_reducible refine at_slot 6 ?_); (refine arm_alloc (o := ⟨some 6, _, _, _, _, _⟩) rfl _ rfl _ z25 ?_); intro R w2 hRe hR2 hN2)
    | ((with_reducible refine at_slot 12 ?_); (refine arm_load (o := ⟨some 12, _, _, _, _, _⟩) rfl _ _ rfl B5 0 rfl (u8s hh) ((hR1.old hN2.below).range 0 _ (fun j v hj => by rw [Nat.zero_add]; exact hj)) (by rw [u8s_length, HH.out]; exact sz25) ?_))
    | ((with_reducible refine at_slot 13 ?_); (refine arm_build (o := ⟨some 13, _, _, _, _, _⟩) rfl _ _ rfl kc (by simp only [List.map_toArray, List.map_cons, List.map_nil]; exact HBK.out) ?_))
    | ((with_reducible refine at_slot 7 ?_); (refine arm_alloc (o := ⟨some 7, _, _, _, _, _⟩) rfl _ rfl _ z_key ?_); intro B7 w3 hB7 hR3 hN3)
    | ((with_reducible refine arm_store (o := ⟨none, _, _, _, _, _⟩) rfl _ _ _ rfl B7 0 rfl kc rfl _ _ hR3 (by rw [HKL.out, List.length_cons, u8s_length, List.length_replicate]; omega) HK1.out (by rw [HKL.out]; exact sz_key) ?_); intro w4 hR4 hO4 hS4))
  have e5 := hB5.out; have eR := hRe.out; have e7 := hB7.out; have s1 := hN1.size; have s2 := hN2.size; have s3 := hN3.size; have s4 := hS4.out
  have bel3 : Below w.heap.size w w3 := below_step (below_step hN1.below (by omega) hN2.below) (by omega) hN3.below
  have bel4 : Below w.heap.size w w4 := below_only bel3 hO4 (by omega) (by omega)
  have belz : Below w.heap.size w w4.drew := bel4.trans ((Below.refl _ _).drew)
  have hR5z : Row w4.drew B5 32 (u8s hh) := show Row w4 B5 32 (u8s hh) from ((hR1.old hN2.below).old hN3.below).only hO4 (by omega)
  have hRRz : Row w4.drew R 32 (u8s (List.replicate 32 0)) := show Row w4 R 32 (u8s (List.replicate 32 0)) from (hR2.old hN3.below).only hO4 (by omega)
  have hR7z : Row w4.drew B7 55 kc := show Row w4 B7 55 kc from hR4.congr (lay_all _ _ (by rw [HKL.out, List.length_cons, u8s_length, List.length_replicate]))
  have lB5 : w.heap.size ≤ B5 := by omega
  have lR : w.heap.size ≤ R := by omega
  have lB7 : w.heap.size ≤ B7 := by omega
  have nR5 : R ≠ B5 := by omega
  have nR7 : R ≠ B7 := by omega
  have NR := Lib.hid (And.intro nR5 nR7)
  clear e5 eR e7 s1 s2 s3 s4 bel3 bel4 hB5 hRe hB7 hR1 hN1 hR2 hN2 hR3 hN3 hR4 hO4 hS4 nR5 nR7
  obtain ⟨us, is, hu, hul, hcase⟩ : ∃ (us : List Nat) (is : Bool), (Mp.look (K.map fun x => (x, dV x)) (s, hh)).getD (.agg (u8s (List.replicate 32 0)).toArray) = .agg (u8s us).toArray ∧ us.length = 32 ∧ ((Mp.look (K.map fun x => (x, dV x)) (s, hh)).isSome = is ∧ (is = true → (s, hh) ∈ K ∧ us = keyD (s, hh)) ∧ (is = false → (s, hh) ∉ K)) := by
    by_cases hm : (s, hh) ∈ K
    · exact ⟨keyD (s, hh), true, by rw [look_mem dV _ K hm]; rfl, keyD_len _, by rw [look_mem dV _ K hm]; rfl, fun _ => ⟨hm, rfl⟩, fun h => by cases h⟩
    · exact ⟨List.replicate 32 0, false, by rw [look_not dV _ K hm]; rfl, by simp, by rw [look_not dV _ K hm]; rfl, fun h => (by cases h), fun _ => hm⟩
  have HU := Lib.hid hu; have HUL := Lib.hid hul; have HCS := Lib.hid hcase
  clear hu hul hcase
  refine wp_region_held (S := fun w' => Below w4.drew.heap.size w4.drew w') (by kernel_rfl) ?_
  change wpAnyH _ _ _ _ _ _ _ _ w4.drew
  generalize w4.drew = wz at belz hR5z hRRz hR7z ⊢
  have hS : Below wz.heap.size wz wz := Below.refl _ _
  have HZ := Lib.hid (H.out.old belz)
  have hMz : wz.cell? ⟨M, 1, none⟩ = some (.map (some b)) := HZ.out.row.cell rfl
  refine h_take 0 (.pointer (some ⟨M, 0, none⟩)) rfl 15 rfl (by kernel_rfl) (by kernel_rfl) (by kernel_rfl) (by kernel_rfl) (fun _ _ _ h => h) (fun w' _ => by kernel_rfl) hS ?_
  simp only [Act.put, List.setIfInBounds_toArray, List.set_cons_zero, List.set_cons_succ]
  refine h_take 1 (.pointer (some ⟨M, 0, none⟩)) rfl 16 rfl (by kernel_rfl) (by kernel_rfl) (by kernel_rfl) (by kernel_rfl) (fun _ _ _ h => h) (fun w' _ => by kernel_rfl) hS ?_
  simp only [Act.put, List.setIfInBounds_toArray, List.set_cons_zero, List.set_cons_succ]
  refine h_take 2 (.pointer (some ⟨M, 1, none⟩)) rfl 17 rfl (by kernel_rfl) (by kernel_rfl) (by kernel_rfl) (by kernel_rfl) (fun _ _ _ h => h) (fun w' _ => by kernel_rfl) hS ?_
  simp only [Act.put, List.setIfInBounds_toArray, List.set_cons_zero, List.set_cons_succ]
  refine h_take 3 (.map (some b)) rfl 18 rfl (by kernel_rfl) (by kernel_rfl) (by kernel_rfl) (by kernel_rfl) (fun _ _ _ h => h) (fun w' hC => run_op_load1 _ _ rfl _ und_map rfl _ rfl _ ((HZ.out.row.old hC).cell rfl)) hS ?_
  simp only [Act.put, List.setIfInBounds_toArray, List.set_cons_zero, List.set_cons_succ]
  refine h_take 4 (.agg kc.toArray) rfl 19 rfl (by kernel_rfl) (by kernel_rfl) (by kernel_rfl) (by kernel_rfl) (fun _ _ _ h => h) (fun w' hC => run_op_load _ _ rfl B7 0 rfl kc ((hR7z.old hC).range 0 _ (fun j v hj => by rw [Nat.zero_add]; exact hj)) (by rw [HKL.out]; exact sz_key)) hS ?_
  simp only [Act.put, List.setIfInBounds_toArray, List.set_cons_zero, List.set_cons_succ]
  refine h_take 5 (.tuple #[.agg (u8s us).toArray, .bool is]) rfl 20 rfl (by kernel_rfl) (by kernel_rfl) (by kernel_rfl) (by kernel_rfl) (fun _ _ _ h => h) (fun w' hC => by rw [← HU.out, ← HCS.out.1]; exact run_op_lookup _ _ _ rfl rfl (s, hh) HX.out (by rw [HKC.out]; rfl) (HZ.out.old hC).map_ kind_tag und_map _ (zero_hash w') (fun p hp => by obtain ⟨y, hy, rfl⟩ := List.mem_map.1 hp; exact HZ.out.ok_ y hy)) hS ?_
  simp only [Act.put, List.setIfInBounds_toArray, List.set_cons_zero, List.set_cons_succ]
  refine h_take 6 (.tuple #[.agg (u8s us).toArray, .bool is]) rfl 14 rfl (by kernel_rfl) (by kernel_rfl) (by kernel_rfl) (by kernel_rfl) (fun _ _ _ h => h) (fun w' _ => by kernel_rfl) hS ?_
  simp only [Act.put, List.setIfInBounds_toArray, List.set_cons_zero, List.set_cons_succ]
  refine h_take 7 (.agg (u8s us).toArray) rfl 21 rfl (by kernel_rfl) (by kernel_rfl) (by kernel_rfl) (by kernel_rfl) (fun _ _ _ h => h) (fun w' _ => by kernel_rfl) hS ?_
  simp only [Act.put, List.setIfInBounds_toArray, List.set_cons_zero, List.set_cons_succ]
  refine h_take 8 (.bool is) rfl 22 rfl (by kernel_rfl) (by kernel_rfl) (by kernel_rfl) (by kernel_rfl) (fun _ _ _ h => h) (fun w' _ => by kernel_rfl) hS ?_
  simp only [Act.put, List.setIfInBounds_toArray, List.set_cons_zero, List.set_cons_succ]
  refine h_one (i := 9) (by kernel_rfl) (o_value _ rfl 8 rfl (by kernel_rfl) (run_op_alloc _ rfl _ z25) ?_)
  have hN8 : New wz (wz.alloc (.cells (u8s (List.replicate 32 0)).toArray 32)) := new_alloc _ _
  have hR8 : Row (wz.alloc (.cells (u8s (List.replicate 32 0)).toArray 32)) wz.heap.size 32 (u8s (List.replicate 32 0)) := heap_alloc_new _ _
  generalize wz.alloc (.cells (u8s (List.replicate 32 0)).toArray 32) = w8 at hN8 hR8 ⊢
  refine ⟨hN8.below, ?_⟩
  simp only [Act.put, List.setIfInBounds_toArray, List.set_cons_zero, List.set_cons_succ]
  refine h_one (i := 10) (by kernel_rfl) (o_skip rfl rfl (by kernel_rfl) (run_op_store _ _ _ rfl wz.heap.size 0 rfl (u8s us) rfl _ _ hR8 (by rw [u8s_length, u8s_length, List.length_replicate, HUL.out]; omega) (u8s_one _) (by rw [u8s_length, HUL.out]; exact sz25)) ?_)
  have hO9 := Only.setRow wz.heap.size w8 (lay (u8s (List.replicate 32 0)) 0 (u8s us)).toArray
  have hR9 := (row_setRow hR8 (lay (u8s (List.replicate 32 0)) 0 (u8s us))).congr (lay_all _ _ (by rw [u8s_length, u8s_length, List.length_replicate, HUL.out]))
  have bel9 : Below wz.heap.size wz (w8.setRow wz.heap.size (lay (u8s (List.replicate 32 0)) 0 (u8s us)).toArray) := below_only hN8.below hO9 (Nat.le_refl _) hN8.below.size
  generalize w8.setRow wz.heap.size (lay (u8s (List.replicate 32 0)) 0 (u8s us)).toArray = w9 at hO9 hR9 bel9 ⊢
  refine ⟨bel9, ?_⟩
  refine h_take 11 (.bool is) rfl 9 rfl (by kernel_rfl) (by kernel_rfl) (by kernel_rfl) (by kernel_rfl) (fun _ _ _ h => h) (fun w' _ => by kernel_rfl) bel9 ?_
  simp only [Act.put, List.setIfInBounds_toArray, List.set_cons_zero, List.set_cons_succ]
  refine wpAnyH_done (by kernel_rfl) ?_ _
  have nR8 : R ≠ wz.heap.size := Nat.ne_of_lt hRRz.lt
  have lz : w.heap.size ≤ wz.heap.size := belz.size
  have hRR9 := hRRz.old bel9
  have hR59 := hR5z.old bel9
  have hR79 := hR7z.old bel9
  have hM9 := HZ.out.old bel9
  have bel9w : Below w.heap.size w w9 := below_step belz lz bel9
  have lB8 : w.heap.size ≤ wz.heap.size := lz
  have HR8 := Lib.hid nR8
  generalize wz.heap.size = B8 at hR9 lB8 HR8 ⊢
  clear hS hMz HZ hN8 hR8 hO9 bel9 belz hR5z hRRz hR7z nR8 lz w8 wz w4 w3 w2 w1
  cases is with
  | true =>
    obtain ⟨hmem, husd⟩ := HCS.out.2.1 rfl
    have HG := Lib.hid (show grown K room (s, hh) = K by unfold grown; rw [if_pos hmem])
    have HD := Lib.hid (show Value.agg (u8s us).toArray = dV (s, hh) by unfold dV; rw [husd])
    clear husd hmem
    go_wp2_with (first
      | ((with_reducible refine at_slot 24 ?_); (refine arm_load (o := ⟨some 24, _, _, _, _, _⟩) rfl _ _ rfl B8 0 rfl (u8s us) (hR9.range 0 _ (fun j v hj => by rw [Nat.zero_add]; exact hj)) (by rw [u8s_length, HUL.out]; exact sz25) ?_))
      | ((with_reducible refine arm_store (o := ⟨none, _, _, _, _, _⟩) rfl _ _ _ rfl R 0 rfl (u8s us) rfl _ _ hRR9 (by rw [u8s_length, u8s_length, List.length_replicate, HUL.out]; omega) (u8s_one _) (by rw [u8s_length, HUL.out]; exact sz25) ?_); intro wa hRa hOa hSa))
    have hMR : M ≠ R := by omega
    have hbR : b ≠ R := by omega
    refine bodyPost_ret (v := .agg (u8s us).toArray) (result_row (p := 6) (ty := 32) (u := 32) (by kernel_rfl) _ _ R _ rfl (hRa.congr (lay_all _ _ (by rw [u8s_length, u8s_length, List.length_replicate, HUL.out]))) (by rw [u8s_length, HUL.out]; exact sz25)) rfl ⟨by rw [HD.out], by rw [HG.out]; exact hM9.only hOa hMR hbR, Only.of_below b (below_only bel9w hOa lR bel9w.size)⟩
  | false =>
    have HNM := Lib.hid (HCS.out.2.2 rfl)
    go_wp2_with (first
      | ((with_reducible refine at_slot 26 ?_); (refine arm_sliceAll (o := ⟨some 26, _, _, _, _, _⟩) rfl _ _ rfl 32 5 (by kernel_rfl) (by kernel_rfl) B5 0 rfl (by omega) ?_))
      | ((with_reducible refine at_slot 27 ?_); (refine arm_one (o := ⟨some 27, _, _, _, _, _⟩) rfl _ rfl (some ⟨B5, 0, none⟩) 32 32 rfl ?_); intro Bp wa hBp hRa hNa))
    have hpt : Parts wa (some ⟨Bp, 0, none⟩) [hh] := parts_one (p := some ⟨B5, 0, none⟩) (c := 32) (by rw [HH.out]; exact hRa) (came_row (t := 32) ((hR59.old hNa.below).range 0 _ (fun j v hj => by rw [Nat.zero_add]; exact hj)) HH.out HXL.out)
    have belaw : Below w.heap.size w wa := below_step bel9w bel9w.size hNa.below
    refine (tagOf_any s [hh] (some ⟨Bp, 0, none⟩) 1 wa (by simp [total, HH.out]) hpt (range_block HK.out (belaw.block _ hk1))).mono ?_
    have HDL := Lib.hid (tagD_len s [hh])
    have HDV := Lib.hid (show Value.agg (u8s (tagD s [hh])).toArray = dV (s, hh) from rfl)
    generalize tagD s [hh] = dg at HDL HDV ⊢
    rintro e wb ⟨rfl, hBb⟩
    have belbw : Below w.heap.size w wb := below_step belaw belaw.size hBb
    have hRRb := (hRR9.old hNa.below).old hBb
    have hR7b := (hR79.old hNa.below).old hBb
    have hMb := (hM9.old hNa.below).old hBb
    clear hpt hBp hRa hNa hBb belaw hRR9 hR59 hR79 hM9 bel9w hR9 lB8 HR8 w9
    go_wp2_with (first
      | ((with_reducible refine at_slot 10 ?_); (refine arm_alloc (o := ⟨some 10, _, _, _, _, _⟩) rfl _ rfl _ z25 ?_); intro Bd wc hBd hRc hNc)
      | ((with_reducible refine arm_store (o := ⟨none, _, _, _, _, _⟩) rfl _ _ _ rfl Bd 0 rfl (u8s dg) rfl _ _ hRc (by rw [u8s_length, u8s_length, List.length_replicate, HDL.out]; omega) (u8s_one _) (by rw [u8s_length, HDL.out]; exact sz25) ?_); intro wd hRd hOd hSd))
    have eBd := hBd.out
    have lBd : w.heap.size ≤ Bd := by have := belbw.size; omega
    have rR := hRRb.lt
    have r7 := hR7b.lt
    have nRd : R ≠ Bd := by omega
    have beld : Below w.heap.size w wd := below_only (below_step belbw belbw.size hNc.below) hOd lBd (Nat.le_trans belbw.size (Nat.le_of_lt hNc.lt))
    have hRRd : Row wd R 32 (u8s (List.replicate 32 0)) := (hRRb.old hNc.below).only hOd nRd
    have hR7d : Row wd B7 55 kc := (hR7b.old hNc.below).only hOd (by omega)
    have hMd : MemoAt wd M b room K := (hMb.old hNc.below).only hOd (by omega) (by omega)
    have hRDd : Row wd Bd 32 (u8s dg) := hRd.congr (lay_all _ _ (by rw [u8s_length, u8s_length, List.length_replicate, HDL.out]))
    have belz : Below w.heap.size w wd.drew := beld.trans ((Below.refl _ _).drew)
    have NRD := Lib.hid nRd
    clear eBd rR r7 nRd hBd hRc hNc hRd hOd hSd hRRb hR7b hMb belbw wc wb wa
    refine wp_region_held (S := fun w' => Below wd.drew.heap.size wd.drew w') (by kernel_rfl) ?_
    change wpAnyH _ _ _ _ _ _ _ _ wd.drew
    have hRRz : Row wd.drew R 32 (u8s (List.replicate 32 0)) := hRRd
    have hR7z : Row wd.drew B7 55 kc := hR7d
    have hMz : MemoAt wd.drew M b room K := hMd.old ((Below.refl _ _).drew)
    have hRDz : Row wd.drew Bd 32 (u8s dg) := hRDd
    generalize wd.drew = wz at belz hRRz hR7z hMz hRDz ⊢
    clear beld hRRd hR7d hMd hRDd
    have hS : Below wz.heap.size wz wz := Below.refl _ _
    have HZ := Lib.hid hMz; clear hMz
    obtain ⟨r, hr⟩ : ∃ r : Bool, decide ((K.length : Int) < room) = r := ⟨_, rfl⟩
    have HR := Lib.hid hr; clear hr
    refine h_take 0 (.pointer (some ⟨M, 0, none⟩)) rfl 29 rfl (by kernel_rfl) (by kernel_rfl) (by kernel_rfl) (by kernel_rfl) (fun _ _ _ h => h) (fun w' _ => by kernel_rfl) hS ?_
    simp only [Act.put, List.setIfInBounds_toArray, List.set_cons_zero, List.set_cons_succ]
    refine h_take 1 (.pointer (some ⟨M, 0, none⟩)) rfl 30 rfl (by kernel_rfl) (by kernel_rfl) (by kernel_rfl) (by kernel_rfl) (fun _ _ _ h => h) (fun w' _ => by kernel_rfl) hS ?_
    simp only [Act.put, List.setIfInBounds_toArray, List.set_cons_zero, List.set_cons_succ]
    refine h_take 2 (.pointer (some ⟨M, 1, none⟩)) rfl 31 rfl (by kernel_rfl) (by kernel_rfl) (by kernel_rfl) (by kernel_rfl) (fun _ _ _ h => h) (fun w' _ => by kernel_rfl) hS ?_
    simp only [Act.put, List.setIfInBounds_toArray, List.set_cons_zero, List.set_cons_succ]
    refine h_take 3 (.map (some b)) rfl 32 rfl (by kernel_rfl) (by kernel_rfl) (by kernel_rfl) (by kernel_rfl) (fun _ _ _ h => h) (fun w' hC => run_op_load1 _ _ rfl _ und_map rfl _ rfl _ ((HZ.out.row.old hC).cell rfl)) hS ?_
    simp only [Act.put, List.setIfInBounds_toArray, List.set_cons_zero, List.set_cons_succ]
    refine h_take 4 (.int .i64 (K.length : Int)) rfl 33 rfl (by kernel_rfl) (by kernel_rfl) (by kernel_rfl) (by kernel_rfl) (fun _ _ _ h => h) (fun w' hC => by rw [show (K.length : Int) = ((K.map fun x => (x, dV x)).length : Int) from by rw [List.length_map]]; exact run_op_len _ _ rfl rfl (HZ.out.old hC).map_ und_map) hS ?_
    simp only [Act.put, List.setIfInBounds_toArray, List.set_cons_zero, List.set_cons_succ]
    refine h_take 5 (.pointer (some ⟨M, 0, none⟩)) rfl 34 rfl (by kernel_rfl) (by kernel_rfl) (by kernel_rfl) (by kernel_rfl) (fun _ _ _ h => h) (fun w' _ => by kernel_rfl) hS ?_
    simp only [Act.put, List.setIfInBounds_toArray, List.set_cons_zero, List.set_cons_succ]
    refine h_take 6 (.pointer (some ⟨M, 0, none⟩)) rfl 35 rfl (by kernel_rfl) (by kernel_rfl) (by kernel_rfl) (by kernel_rfl) (fun _ _ _ h => h) (fun w' _ => by kernel_rfl) hS ?_
    simp only [Act.put, List.setIfInBounds_toArray, List.set_cons_zero, List.set_cons_succ]
    refine h_take 7 (.pointer (some ⟨M, 0, none⟩)) rfl 36 rfl (by kernel_rfl) (by kernel_rfl) (by kernel_rfl) (by kernel_rfl) (fun _ _ _ h => h) (fun w' _ => by kernel_rfl) hS ?_
    simp only [Act.put, List.setIfInBounds_toArray, List.set_cons_zero, List.set_cons_succ]
    refine h_take 8 (.int .i64 room) rfl 37 rfl (by kernel_rfl) (by kernel_rfl) (by kernel_rfl) (by kernel_rfl) (fun _ _ _ h => h) (fun w' hC => run_op_load1 _ _ rfl (.int .i64) (by kernel_rfl) rfl _ rfl _ ((HZ.out.row.old hC).cell rfl)) hS ?_
    simp only [Act.put, List.setIfInBounds_toArray, List.set_cons_zero, List.set_cons_succ]
    refine h_take 9 (.bool r) rfl 38 rfl (by kernel_rfl) (by kernel_rfl) (by kernel_rfl) (by kernel_rfl) (fun _ _ _ h => h) (fun w' _ => by rw [← HR.out]; kernel_rfl) hS ?_
    simp only [Act.put, List.setIfInBounds_toArray, List.set_cons_zero, List.set_cons_succ]
    refine wpAnyH_done (by kernel_rfl) ?_ _
    have hMR : M ≠ R := by omega
    have hbR : b ≠ R := by omega
    have nMb : M ≠ b := fun e => HZ.out.apart e.symm
    cases r with
    | true =>
      have hroom : (K.length : Int) < room := of_decide_eq_true HR.out
      have HG := Lib.hid (show grown K room (s, hh) = K ++ [(s, hh)] by unfold grown; rw [if_neg HNM.out, if_pos hroom])
      clear hroom
      go_wp2_with fail
      have belz2 : Below w.heap.size w wz.drew := belz.trans ((Below.refl _ _).drew)
      refine wp_region_held (S := fun w' => Only b wz.drew w') (by kernel_rfl) ?_
      change wpAnyH _ _ _ _ _ _ _ _ wz.drew
      have hRRy : Row wz.drew R 32 (u8s (List.replicate 32 0)) := hRRz
      have hR7y : Row wz.drew B7 55 kc := hR7z
      have hMy : MemoAt wz.drew M b room K := HZ.out.old ((Below.refl _ _).drew)
      have hRDy : Row wz.drew Bd 32 (u8s dg) := hRDz
      clear hS belz HZ hRRz hR7z hRDz
      generalize wz.drew = wy at belz2 hRRy hR7y hMy hRDy ⊢
      have hS : Only b wy wy := Only.refl _ _
      have HY := Lib.hid hMy; clear hMy
      refine h_take 0 (.pointer (some ⟨M, 0, none⟩)) rfl 39 rfl (by kernel_rfl) (by kernel_rfl) (by kernel_rfl) (by kernel_rfl) (fun _ _ _ h => h) (fun w' _ => by kernel_rfl) hS ?_
      simp only [Act.put, List.setIfInBounds_toArray, List.set_cons_zero, List.set_cons_succ]
      refine h_take 1 (.pointer (some ⟨M, 0, none⟩)) rfl 40 rfl (by kernel_rfl) (by kernel_rfl) (by kernel_rfl) (by kernel_rfl) (fun _ _ _ h => h) (fun w' _ => by kernel_rfl) hS ?_
      simp only [Act.put, List.setIfInBounds_toArray, List.set_cons_zero, List.set_cons_succ]
      refine h_take 2 (.pointer (some ⟨M, 1, none⟩)) rfl 41 rfl (by kernel_rfl) (by kernel_rfl) (by kernel_rfl) (by kernel_rfl) (fun _ _ _ h => h) (fun w' _ => by kernel_rfl) hS ?_
      simp only [Act.put, List.setIfInBounds_toArray, List.set_cons_zero, List.set_cons_succ]
      refine h_take 3 (.map (some b)) rfl 42 rfl (by kernel_rfl) (by kernel_rfl) (by kernel_rfl) (by kernel_rfl) (fun _ _ _ h => h) (fun w' hC => run_op_load1 _ _ rfl _ und_map rfl _ rfl _ ((HY.out.row.only hC nMb).cell rfl)) hS ?_
      simp only [Act.put, List.setIfInBounds_toArray, List.set_cons_zero, List.set_cons_succ]
      refine h_take 4 (.agg kc.toArray) rfl 43 rfl (by kernel_rfl) (by kernel_rfl) (by kernel_rfl) (by kernel_rfl) (fun _ _ _ h => h) (fun w' hC => run_op_load _ _ rfl B7 0 rfl kc ((hR7y.only hC (by omega)).range 0 _ (fun j v hj => by rw [Nat.zero_add]; exact hj)) (by rw [HKL.out]; exact sz_key)) hS ?_
      simp only [Act.put, List.setIfInBounds_toArray, List.set_cons_zero, List.set_cons_succ]
      refine h_take 5 (.agg (u8s dg).toArray) rfl 44 rfl (by kernel_rfl) (by kernel_rfl) (by kernel_rfl) (by kernel_rfl) (fun _ _ _ h => h) (fun w' hC => run_op_load _ _ rfl Bd 0 rfl (u8s dg) ((hRDy.only hC (by omega)).range 0 _ (fun j v hj => by rw [Nat.zero_add]; exact hj)) (by rw [u8s_length, HDL.out]; exact sz25)) hS ?_
      simp only [Act.put, List.setIfInBounds_toArray, List.set_cons_zero, List.set_cons_succ]
      refine h_one (i := 6) (by kernel_rfl) (o_update rfl rfl (by kernel_rfl) _ _ _ _ rfl rfl (s, hh) HX.out (by rw [HKC.out]; rfl) (dV (s, hh)) (by rw [← HDV.out]; rfl) HY.out.map_ kind_tag und_map (fun p hp => by obtain ⟨y, hy, rfl⟩ := List.mem_map.1 hp; exact HY.out.ok_ y hy) (look_not dV _ K HNM.out) ?_)
      intro we hme hOe hse
      refine ⟨hOe, wpAnyH_done (by kernel_rfl) ?_ _⟩
      have hRRe : Row we R 32 (u8s (List.replicate 32 0)) := hRRy.only hOe (Ne.symm hbR)
      have hRDe : Row we Bd 32 (u8s dg) := hRDy.only hOe (by omega)
      have hMe : MemoAt we M b room (K ++ [(s, hh)]) := ⟨HY.out.row.only hOe nMb, by rw [List.map_append]; exact hme, fun x hx => by
        rcases List.mem_append.1 hx with h | h
        · exact HY.out.ok_ x h
        · obtain rfl : x = (s, hh) := by simpa using h
          exact HX.out⟩
      have HOe := Lib.hid ((Only.of_below b belz2).trans hOe)
      clear hS HY hme hOe hse hRRy hR7y hRDy belz2 wy wz
      go_wp2_with (first
        | ((with_reducible refine at_slot 45 ?_); (refine arm_load (o := ⟨some 45, _, _, _, _, _⟩) rfl _ _ rfl Bd 0 rfl (u8s dg) (hRDe.range 0 _ (fun j v hj => by rw [Nat.zero_add]; exact hj)) (by rw [u8s_length, HDL.out]; exact sz25) ?_))
        | ((with_reducible refine arm_store (o := ⟨none, _, _, _, _, _⟩) rfl _ _ _ rfl R 0 rfl (u8s dg) rfl _ _ hRRe (by rw [u8s_length, u8s_length, List.length_replicate, HDL.out]; omega) (u8s_one _) (by rw [u8s_length, HDL.out]; exact sz25) ?_); intro wf hRf hOf hSf))
      refine bodyPost_ret (v := .agg (u8s dg).toArray) (result_row (p := 6) (ty := 32) (u := 32) (by kernel_rfl) _ _ R _ rfl (hRf.congr (lay_all _ _ (by rw [u8s_length, u8s_length, List.length_replicate, HDL.out]))) (by rw [u8s_length, HDL.out]; exact sz25)) rfl ⟨by rw [HDV.out], by rw [HG.out]; exact hMe.only hOf hMR hbR, only_new HOe.out hOf lR⟩
    | false =>
      have hroom : ¬ (K.length : Int) < room := of_decide_eq_false HR.out
      have HG := Lib.hid (show grown K room (s, hh) = K by unfold grown; rw [if_neg HNM.out, if_neg hroom])
      clear hroom
      have hRRe := hRRz; have hRDe := hRDz; have hMe := HZ.out
      have HOe := Lib.hid (Only.of_below b belz)
      clear hS HZ hRRz hRDz hR7z belz
      go_wp2_with (first
        | ((with_reducible refine at_slot 45 ?_); (refine arm_load (o := ⟨some 45, _, _, _, _, _⟩) rfl _ _ rfl Bd 0 rfl (u8s dg) (hRDe.range 0 _ (fun j v hj => by rw [Nat.zero_add]; exact hj)) (by rw [u8s_length, HDL.out]; exact sz25) ?_))
        | ((with_reducible refine arm_store (o := ⟨none, _, _, _, _, _⟩) rfl _ _ _ rfl R 0 rfl (u8s dg) rfl _ _ hRRe (by rw [u8s_length, u8s_length, List.length_replicate, HDL.out]; omega) (u8s_one _) (by rw [u8s_length, HDL.out]; exact sz25) ?_); intro wf hRf hOf hSf))
      refine bodyPost_ret (v := .agg (u8s dg).toArray) (result_row (p := 6) (ty := 32) (u := 32) (by kernel_rfl) _ _ R _ rfl (hRf.congr (lay_all _ _ (by rw [u8s_length, u8s_length, List.length_replicate, HDL.out]))) (by rw [u8s_length, HDL.out]; exact sz25)) rfl ⟨by rw [HDV.out], by rw [HG.out]; exact hMe.only hOf hMR hbR, only_new HOe.out hOf lR⟩
end Go.Proofs.YtebfdbibeecncaaDoor.Tg
