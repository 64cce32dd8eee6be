/-
  Slices of addresses of numbers, that the call makes itself; the contract of (*State).numbers: where a state's own numbers lie. Over this seat's translation.
-/
import Derived.Test.YtnjmocobncncdaaGreatDoorStaMem
import Derived.Test.YtnjmocobncncdaaGreatDoorMemAll
import Derived.Maps.AppendAt
namespace Go.Proofs.YtnjmocobncncdaaGreatDoor.Sa
open Go.ChangeShapes Go.WideShapes Go.ChangeAt Go.RowKit Go.Proofs.YtnjmocobncncdaaGreatDoor.Mem Go.Proofs.YtnjmocobncncdaaGreatDoor.Bt
set_option linter.unusedVariables false
set_option linter.unusedSimpArgs false

/-- Addresses of some places that follow one another. -/
def ptrs (B o n : Nat) : List Value := (List.range n).map fun j => .pointer (some ⟨B, o + j, none⟩)
theorem ptrs_len (B o n : Nat) : (ptrs B o n).length = n := by unfold ptrs; rw [List.length_map, List.length_range]
theorem ptrs_get (B o : Nat) {n j : Nat} (h : j < n) : (ptrs B o n)[j]? = some (.pointer (some ⟨B, o + j, none⟩)) := by unfold ptrs; rw [List.getElem?_map, List.getElem?_range h]; rfl
theorem ptrs_snoc (B o n : Nat) : ptrs B o (n + 1) = ptrs B o n ++ [.pointer (some ⟨B, o + n, none⟩)] := by unfold ptrs; rw [List.range_succ, List.map_append]; rfl
/-- Addresses that can be read through this one. -/
structure Pt (w : World) (p : Option Addr) (vs : List Value) : Prop where
  at_ : vs ≠ [] → ∃ (g : Nat) (cur : Array Value), p = some ⟨g, 0, none⟩ ∧ w.heap[g]? = some (.cells cur 118 (0, 0)) ∧ cur.toList.take vs.length = vs
theorem Pt.cell {w : World} {p : Option Addr} {vs : List Value} (h : Pt w p vs) {j : Nat} (hj : j < vs.length) : ∃ g, p = some ⟨g, 0, none⟩ ∧ w.cell? ⟨g, 0 + j, none⟩ = vs[j]? := by
  obtain ⟨g, cur, e, hh, ht⟩ := h.at_ (by intro e; subst e; simp at hj)
  refine ⟨g, e, ?_⟩
  have hj' : (cur.toList.take vs.length)[j]? = vs[j]? := by rw [ht]
  rw [List.getElem?_take, if_pos hj] at hj'
  have h2 : cur[j]? = vs[j]? := by rw [← hj']; simp
  rw [Nat.zero_add]
  rw [List.getElem?_eq_getElem hj] at h2 ⊢
  simp [World.cell?, hh, h2]
/-- A slice of addresses that the call made itself. -/
structure OP (w : World) (base : Nat) (p : Option Addr) (cap : Nat) (vs : List Value) : Prop where
  own : w.ownsRow base 118 1 (.slice p vs.length cap) vs.length vs
theorem infoP : (Tryz.prog.info? 118).map (fun i => (i.zero, i.size, i.bytes)) = some (some (.pointer none), 1, 8) := by kernel_rfl
theorem OP.of_slice {w : World} {base : Nat} {v : Value} {vs : List Value} (h : w.ownsRow base 118 1 v vs.length vs) : ∃ p cap, v = .slice p vs.length cap ∧ OP w base p cap vs := by
  rcases h.2 with ⟨hv, hn⟩ | ⟨g, cap, cur, hv, _⟩
  · exact ⟨none, 0, by rw [hv, hn], ⟨by rw [← show v = .slice none vs.length 0 from by rw [hv, hn]]; exact h⟩⟩
  · exact ⟨_, _, hv, ⟨by rw [← hv]; exact h⟩⟩
theorem OP.pt {w : World} {base : Nat} {p : Option Addr} {cap : Nat} {vs : List Value} (h : OP w base p cap vs) : Pt w p vs := by
  rcases h.own.2 with ⟨hv, hn⟩ | ⟨g, cap', cur, hv, hg, hh, hc, _, hs, ht⟩
  · exact ⟨fun hne => absurd (List.eq_nil_of_length_eq_zero hn) hne⟩
  · obtain ⟨rfl, -, rfl⟩ : p = some ⟨g, 0, none⟩ ∧ vs.length = vs.length ∧ cap = cap' := by simpa using hv
    rw [Nat.mul_one] at ht
    exact ⟨fun _ => ⟨g, cur, rfl, hh, ht⟩⟩
theorem OP.below {w w' : World} {base : Nat} {p : Option Addr} {cap : Nat} {vs : List Value} (h : OP w base p cap vs) (hb : Below w.heap.size w w') : OP w' base p cap vs := by
  refine ⟨h.own.1, ?_⟩
  rcases h.own.2 with h2 | ⟨g, cap', cur, hv, hg, hh, r⟩
  · exact .inl h2
  · exact .inr ⟨g, cap', cur, hv, hg, by rw [hb.block g (Array.getElem?_eq_some_iff.1 hh).1]; exact hh, r⟩
theorem op_row {w2 : World} {b base : Nat} {vs : List Value} (hr : Row w2 b 118 vs) (hb : base ≤ b) (hm : vs.length ≤ 1000000) : OP w2 base (some ⟨b, 0, none⟩) vs.length vs :=
  ⟨by rw [Nat.mul_one], .inr ⟨b, vs.length, vs.toArray, rfl, hb, hr, Nat.le_refl _, by unfold maxLen; omega, by simp, by simp [List.take_of_length_le]⟩⟩
section
variable {ops : Array Oper} {rest : List Oper} {o : Oper} {a : Act} {w : World} {Q : Exit → Act → World → Prop}
/-- 'append(s, x)' of one address onto a slice of the call's own. -/
theorem arm_appendP (hgd : o.guard = none) (s x : Operand) (ho : o.op = .call { callee := .builtin .append, args := #[s, x], argTypes := #[117, 117] }) (base : Nat) (p : Option Addr) (n cap : Nat) (vs : List Value) (hn : n = vs.length)
    (hs : a.eval s = .slice p n cap) (hown : OP w base p cap vs) (g : Nat) (v : Value) (h1 : v.oneCell' = true) (hx : a.eval x = .slice (some ⟨g, 0, none⟩) 1 1) (hg : Row w g 118 [v]) (hz : vs.length ≤ 1000000) (hb : base ≤ w.heap.size)
    (h : ∀ p' cap' w', OP w' base p' cap' (vs ++ [v]) → Below base w w' → wpList Tryz.prog ops Q rest (a.put o.dst (.slice p' (n + 1) cap')) w') : wpList Tryz.prog ops Q (o :: rest) a w := by
  subst hn
  obtain ⟨i0, hi, hz0, hz1, hz2⟩ := info_parts infoP
  refine wpList_append_own_at w hgd s x 117 ho base 118 i0 (.pointer none) 1 8 (by kernel_rfl) hi hz0 hz1 hz2 rfl (by decide) _ _ _ hs hown.own ⟨g, 0, none⟩ 1 1 [v] hx rfl ?_ ?_ (by unfold maxLen; omega) (by omega) hb ?_
  · intro j u hj
    rw [Addr.add_mid]
    have : j = 0 := by have := (List.getElem?_eq_some_iff.1 hj).1; simp at this; omega
    subst this
    rw [Nat.zero_add]
    exact hg.cell hj
  · intro u hu
    rw [List.mem_singleton.1 hu]
    exact h1
  · intro v' w' hown' hgrow _ hat
    have hl : (vs ++ [v]).length = vs.length + 1 := by simp
    rw [← hl] at hown'
    obtain ⟨p', cap', hv, hO⟩ := OP.of_slice hown'
    rw [hv, hl]
    refine h p' cap' w' hO ⟨hgrow.os, hgrow.tape, hgrow.output, hgrow.size, fun k hk => hgrow.block k (by omega) (fun e => ?_)⟩
    have := hown.own.lt k e.symm
    omega
/-- A slice of one address that is written out. -/
theorem arm_oneP (hgd : o.guard = none) (parts : Array (Nat × Operand)) (ho : o.op = .buildSlice 117 1 parts) (b i : Nat) (hpv : (parts.map fun (i, y) => (i, a.eval y)) = #[(0, .pointer (some ⟨b, i, none⟩))])
    (h : ∀ c w2, Hid (c = w.heap.size) → Row w2 c 118 [.pointer (some ⟨b, i, none⟩)] → New w w2 → wpList Tryz.prog ops Q rest (a.put o.dst (.slice (some ⟨c, 0, none⟩) 1 1)) w2) : wpList Tryz.prog ops Q (o :: rest) a w := by
  refine wpList_plain hgd fun K hK => ?_
  have hr : (Instr.buildSlice 117 1 #[(0, .pointer (some ⟨b, i, none⟩))]).run Tryz.prog w = .ok (.slice (some ⟨w.heap.size, 0, none⟩) 1 1) (w.alloc (.cells #[.pointer (some ⟨b, i, none⟩)] 118)) := by kernel_rfl
  unfold Oper.wp execOp
  simp only [ho, hpv, Sem.run_bind, hr, Result.andThen_ok, Sem.run_pure]
  exact hK _ _ (h _ _ rfl (heap_alloc_new _ _) (new_alloc _ _))
end
theorem run_op_ptrs {o : Oper} {a : Act} (n : Nat) (parts : Array (Nat × Operand)) (ho : o.op = .buildSlice 117 n parts) (pv : Array (Nat × Value)) (hpv : (parts.map fun (i, y) => (i, a.eval y)) = pv) (vs : List Value)
    (hr : ∀ w : World, (Instr.buildSlice 117 n pv).run Tryz.prog w = .ok (.slice (some ⟨w.heap.size, 0, none⟩) n n) (w.alloc (.cells vs.toArray 118))) (w : World) :
    (execOp a.eval o).run Tryz.prog w = .ok (.value (.slice (some ⟨w.heap.size, 0, none⟩) n n)) (w.alloc (.cells vs.toArray 118)) := by
  unfold execOp
  simp only [ho, hpv, Sem.run_bind, hr w, Result.andThen_ok, Sem.run_pure]
theorem five_ptrs (B : Nat) (w : World) : (Instr.buildSlice 117 5 #[(0, .pointer (some ⟨B, 96, none⟩)), (1, .pointer (some ⟨B, 97, none⟩)), (2, .pointer (some ⟨B, 98, none⟩)), (3, .pointer (some ⟨B, 99, none⟩)), (4, .pointer (some ⟨B, 100, none⟩))]).run Tryz.prog w = .ok (.slice (some ⟨w.heap.size, 0, none⟩) 5 5) (w.alloc (.cells (ptrs B 96 5).toArray 118)) := by kernel_rfl
/-- What numbers leaves. -/
structure NumsPost (w : World) (B : Nat) (e : Ending) (w' : World) : Prop where
  ex : ∃ p cap, e = .returned (.slice p 9 cap) ∧ OP w' w.heap.size p cap (ptrs B 96 9)
  bel : Below w.heap.size w w'
/-- What holds while it goes through the counts. -/
structure NsRel (w : World) (B : Nat) (i v : Value) (wr : World) : Prop where
  ex : ∃ k : Nat, k ≤ 4 ∧ i = .int .i64 k ∧ ∃ p cap, v = .slice p (5 + k) cap ∧ OP wr w.heap.size p cap (ptrs B 96 (5 + k))
  bel : Below w.heap.size w wr
set_option maxHeartbeats 2000000 in
set_option maxRecDepth 100000 in
theorem numbers_any (B : Nat) (w : World) : Calls Tryz.prog 65 #[.pointer (some ⟨B, 0, none⟩)] w (NumsPost w B) := by
  go_enter Tryz.func65, Tryz.ntmps65
  go_wp2_with fail
  obtain ⟨Z, hZ⟩ : ∃ Z, Z = w.heap.size := ⟨_, rfl⟩
  refine wp_region_held (S := fun w' => Below Z w w') (by kernel_rfl) ?_
  change wpAnyH _ _ _ _ _ _ _ _ w.drew
  have hS : Below Z w w.drew := (Below.refl _ _).drew
  have hzd : Hid (w.drew.heap.size = w.heap.size) := Lib.hid rfl
  have HZ := Lib.hid hZ
  clear hZ
  generalize w.drew = wz at hS hzd ⊢
  refine h_take 0 (.pointer (some ⟨B, 0, none⟩)) rfl 5 rfl (by kernel_rfl) (by kernel_rfl) (by kernel_rfl) (by kernel_rfl) (fun _ _ _ h => h) (fun w' _ => by kernel_rfl) hS ?_
  simp only [Act.put, List.setIfInBounds_toArray, List.set_cons_zero, List.set_cons_succ]
  refine h_take 1 (.pointer (some ⟨B, 0, none⟩)) rfl 6 rfl (by kernel_rfl) (by kernel_rfl) (by kernel_rfl) (by kernel_rfl) (fun _ _ _ h => h) (fun w' _ => by kernel_rfl) hS ?_
  simp only [Act.put, List.setIfInBounds_toArray, List.set_cons_zero, List.set_cons_succ]
  refine h_take 2 (.pointer (some ⟨B, 96, none⟩)) rfl 7 rfl (by kernel_rfl) (by kernel_rfl) (by kernel_rfl) (by kernel_rfl) (fun _ _ _ h => h) (fun w' _ => by kernel_rfl) hS ?_
  simp only [Act.put, List.setIfInBounds_toArray, List.set_cons_zero, List.set_cons_succ]
  refine h_take 3 (.pointer (some ⟨B, 0, none⟩)) rfl 8 rfl (by kernel_rfl) (by kernel_rfl) (by kernel_rfl) (by kernel_rfl) (fun _ _ _ h => h) (fun w' _ => by kernel_rfl) hS ?_
  simp only [Act.put, List.setIfInBounds_toArray, List.set_cons_zero, List.set_cons_succ]
  refine h_take 4 (.pointer (some ⟨B, 0, none⟩)) rfl 9 rfl (by kernel_rfl) (by kernel_rfl) (by kernel_rfl) (by kernel_rfl) (fun _ _ _ h => h) (fun w' _ => by kernel_rfl) hS ?_
  simp only [Act.put, List.setIfInBounds_toArray, List.set_cons_zero, List.set_cons_succ]
  refine h_take 5 (.pointer (some ⟨B, 97, none⟩)) rfl 10 rfl (by kernel_rfl) (by kernel_rfl) (by kernel_rfl) (by kernel_rfl) (fun _ _ _ h => h) (fun w' _ => by kernel_rfl) hS ?_
  simp only [Act.put, List.setIfInBounds_toArray, List.set_cons_zero, List.set_cons_succ]
  refine h_take 6 (.pointer (some ⟨B, 0, none⟩)) rfl 11 rfl (by kernel_rfl) (by kernel_rfl) (by kernel_rfl) (by kernel_rfl) (fun _ _ _ h => h) (fun w' _ => by kernel_rfl) hS ?_
  simp only [Act.put, List.setIfInBounds_toArray, List.set_cons_zero, List.set_cons_succ]
  refine h_take 7 (.pointer (some ⟨B, 0, none⟩)) rfl 12 rfl (by kernel_rfl) (by kernel_rfl) (by kernel_rfl) (by kernel_rfl) (fun _ _ _ h => h) (fun w' _ => by kernel_rfl) hS ?_
  simp only [Act.put, List.setIfInBounds_toArray, List.set_cons_zero, List.set_cons_succ]
  refine h_take 8 (.pointer (some ⟨B, 98, none⟩)) rfl 13 rfl (by kernel_rfl) (by kernel_rfl) (by kernel_rfl) (by kernel_rfl) (fun _ _ _ h => h) (fun w' _ => by kernel_rfl) hS ?_
  simp only [Act.put, List.setIfInBounds_toArray, List.set_cons_zero, List.set_cons_succ]
  refine h_take 9 (.pointer (some ⟨B, 0, none⟩)) rfl 14 rfl (by kernel_rfl) (by kernel_rfl) (by kernel_rfl) (by kernel_rfl) (fun _ _ _ h => h) (fun w' _ => by kernel_rfl) hS ?_
  simp only [Act.put, List.setIfInBounds_toArray, List.set_cons_zero, List.set_cons_succ]
  refine h_take 10 (.pointer (some ⟨B, 0, none⟩)) rfl 15 rfl (by kernel_rfl) (by kernel_rfl) (by kernel_rfl) (by kernel_rfl) (fun _ _ _ h => h) (fun w' _ => by kernel_rfl) hS ?_
  simp only [Act.put, List.setIfInBounds_toArray, List.set_cons_zero, List.set_cons_succ]
  refine h_take 11 (.pointer (some ⟨B, 99, none⟩)) rfl 16 rfl (by kernel_rfl) (by kernel_rfl) (by kernel_rfl) (by kernel_rfl) (fun _ _ _ h => h) (fun w' _ => by kernel_rfl) hS ?_
  simp only [Act.put, List.setIfInBounds_toArray, List.set_cons_zero, List.set_cons_succ]
  refine h_take 12 (.pointer (some ⟨B, 99, none⟩)) rfl 17 rfl (by kernel_rfl) (by kernel_rfl) (by kernel_rfl) (by kernel_rfl) (fun _ _ _ h => h) (fun w' _ => by kernel_rfl) hS ?_
  simp only [Act.put, List.setIfInBounds_toArray, List.set_cons_zero, List.set_cons_succ]
  refine h_take 13 (.pointer (some ⟨B, 0, none⟩)) rfl 18 rfl (by kernel_rfl) (by kernel_rfl) (by kernel_rfl) (by kernel_rfl) (fun _ _ _ h => h) (fun w' _ => by kernel_rfl) hS ?_
  simp only [Act.put, List.setIfInBounds_toArray, List.set_cons_zero, List.set_cons_succ]
  refine h_take 14 (.pointer (some ⟨B, 0, none⟩)) rfl 19 rfl (by kernel_rfl) (by kernel_rfl) (by kernel_rfl) (by kernel_rfl) (fun _ _ _ h => h) (fun w' _ => by kernel_rfl) hS ?_
  simp only [Act.put, List.setIfInBounds_toArray, List.set_cons_zero, List.set_cons_succ]
  refine h_take 15 (.pointer (some ⟨B, 99, none⟩)) rfl 20 rfl (by kernel_rfl) (by kernel_rfl) (by kernel_rfl) (by kernel_rfl) (fun _ _ _ h => h) (fun w' _ => by kernel_rfl) hS ?_
  simp only [Act.put, List.setIfInBounds_toArray, List.set_cons_zero, List.set_cons_succ]
  refine h_take 16 (.pointer (some ⟨B, 100, none⟩)) rfl 21 rfl (by kernel_rfl) (by kernel_rfl) (by kernel_rfl) (by kernel_rfl) (fun _ _ _ h => h) (fun w' _ => by kernel_rfl) hS ?_
  simp only [Act.put, List.setIfInBounds_toArray, List.set_cons_zero, List.set_cons_succ]
  refine h_take 17 (.pointer (some ⟨B, 100, none⟩)) rfl 22 rfl (by kernel_rfl) (by kernel_rfl) (by kernel_rfl) (by kernel_rfl) (fun _ _ _ h => h) (fun w' _ => by kernel_rfl) hS ?_
  simp only [Act.put, List.setIfInBounds_toArray, List.set_cons_zero, List.set_cons_succ]
  refine h_one (i := 18) (by kernel_rfl) (o_value _ rfl 23 rfl (by kernel_rfl) (run_op_ptrs 5 _ rfl #[(0, .pointer (some ⟨B, 96, none⟩)), (1, .pointer (some ⟨B, 97, none⟩)), (2, .pointer (some ⟨B, 98, none⟩)), (3, .pointer (some ⟨B, 99, none⟩)), (4, .pointer (some ⟨B, 100, none⟩))] (by simp only [List.map_toArray, List.map_cons, List.map_nil]; rfl) (ptrs B 96 5) (five_ptrs B) _) ?_)
  have hN := new_alloc wz (.cells (ptrs B 96 5).toArray 118)
  have hR : Row (wz.alloc (.cells (ptrs B 96 5).toArray 118)) wz.heap.size 118 (ptrs B 96 5) := heap_alloc_new _ _
  generalize wz.alloc (.cells (ptrs B 96 5).toArray 118) = w1 at hN hR ⊢
  have hz1 : wz.heap.size = w.heap.size := hzd.out
  have hZ1 := HZ.out
  have hS1 : Below Z w w1 := below_step hS (by omega) hN.below
  have hO1 : OP w1 w.heap.size (some ⟨wz.heap.size, 0, none⟩) 5 (ptrs B 96 5) := op_row hR (by omega) (by rw [ptrs_len]; omega)
  refine ⟨hS1, ?_⟩
  generalize some (⟨wz.heap.size, 0, none⟩ : Addr) = p1 at hO1 ⊢
  clear hN hR hz1
  simp only [Act.put, List.setIfInBounds_toArray, List.set_cons_zero, List.set_cons_succ]
  refine h_take 19 (.slice p1 5 5) rfl 3 rfl (by kernel_rfl) (by kernel_rfl) (by kernel_rfl) (by kernel_rfl) (fun _ _ _ h => h) (fun w' _ => by kernel_rfl) hS1 ?_
  simp only [Act.put, List.setIfInBounds_toArray, List.set_cons_zero, List.set_cons_succ]
  refine wpAnyH_done (by kernel_rfl) ?_ _
  rw [hZ1] at hS1
  clear hS hzd hZ1 HZ Z wz
  go_wp2_with fail
  have h0 : NsRel w B (.int .i64 0) (.slice p1 5 5) w1 := ⟨⟨0, by omega, rfl, p1, 5, rfl, hO1⟩, hS1⟩
  go_loopw [24, 3] (fun i v wr => NsRel w B i v wr) (fun i _ _ => 4 - (intOf i).toNat)
  case atStart => exact h0
  case round =>
    clear h0 hO1 hS1
    obtain ⟨⟨k, hk, rfl, p, cap, rfl, hO⟩, hbel⟩ := hrel
    by_cases hlt : k < 4
    · have hik : (k : Int) < 4 := by omega
      have HO := Lib.hid hO; clear hO
      have hws := hbel.size
      go_wp2_with (first
        | ((with_reducible refine at_slot 35 ?_); (refine arm_oneP (o := ⟨some 35, _, _, _, _, _⟩) rfl _ rfl B (101 + k) (by simp [Act.eval]) ?_); intro b2 w2 hb2 hR2 hN2)
        | ((with_reducible refine at_slot 36 ?_); (refine arm_appendP (o := ⟨some 36, _, _, _, _, _⟩) rfl _ _ rfl w.heap.size p (5 + k) cap (ptrs B 96 (5 + k)) (by rw [ptrs_len]) rfl (HO.out.below hN2.below) b2 (.pointer (some ⟨B, 101 + k, none⟩)) rfl rfl hR2 (by rw [ptrs_len]; omega) (by have := hN2.below.size; omega) ?_); intro p3 cap3 w3 hO3 hB3))

      have s2 := hN2.below.size
      go_roundw
      case rel => exact ⟨⟨k + 1, by omega, by go_num, p3, cap3, rfl, by rw [show 5 + (k + 1) = 5 + k + 1 from rfl, ptrs_snoc, show 96 + (5 + k) = 101 + k by omega]; exact hO3⟩, (below_step hbel hws hN2.below).trans hB3⟩
      case measure => simp [intOf]; omega
    · obtain rfl : k = 4 := by omega
      go_wp2_with fail
      go_ret
      exact ⟨⟨p, cap, rfl, hO⟩, hbel⟩
end Go.Proofs.YtnjmocobncncdaaGreatDoor.Sa
