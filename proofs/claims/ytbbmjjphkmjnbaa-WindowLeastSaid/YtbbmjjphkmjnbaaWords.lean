/-
  Slices of numbers of 32 bits: those that the call makes itself (a literal of one number, append), and those that came in. Over this seat's translation.
-/
import Derived.Test.YtbbmjjphkmjnbaaBytes
import Derived.Test.YtbbmjjphkmjnbaaHeld
import Derived.Maps.AppendAt
namespace Go.Proofs.Ytbbmjjphkmjnbaa.Wd
open Go.ChangeShapes Go.WideShapes Go.ChangeAt Go.RowKit Go.Proofs.Ytbbmjjphkmjnbaa.Mem Go.Proofs.Ytbbmjjphkmjnbaa.Bt
set_option linter.unusedVariables false

theorem info32 : (Try.prog.info? 22).map (fun i => (i.zero, i.size, i.bytes)) = some (some (.int .u32 0), 1, 4) := by kernel_rfl
/-- Numbers that can be read through this address. -/
structure R32 (w : World) (p : Option Addr) (xs : List Nat) : Prop where
  at_ : xs ≠ [] → ∃ g o, p = some ⟨g, o, none⟩ ∧ w.rangeAt g o (u32s xs)
theorem R32.below {w w' : World} {p : Option Addr} {xs : List Nat} (h : R32 w p xs) {n : Nat} (hb : Below n w w') (hn : ∀ g o, p = some ⟨g, o, none⟩ → g < n) : R32 w' p xs :=
  ⟨fun hne => by
    obtain ⟨g, o, e, hr⟩ := h.at_ hne
    exact ⟨g, o, e, range_block hr (hb.block g (hn g o e))⟩⟩
theorem R32.old {w w' : World} {p : Option Addr} {xs : List Nat} (h : R32 w p xs) (hb : Below w.heap.size w w') : R32 w' p xs :=
  ⟨fun hne => by
    obtain ⟨g, o, e, hr⟩ := h.at_ hne
    exact ⟨g, o, e, range_block hr (hb.block g (range_lt hr (by intro h; apply hne; simpa [u32s] using h)))⟩⟩
theorem R32.cell {w : World} {p : Option Addr} {xs : List Nat} (h : R32 w p xs) {i : Nat} (hi : i < xs.length) : ∃ g o, p = some ⟨g, o, none⟩ ∧ w.cell? ⟨g, o + i, none⟩ = some (.int .u32 ((xs.getD i 0 : Nat) : Int)) := by
  obtain ⟨g, o, e, hr⟩ := h.at_ (by intro h; subst h; simp at hi)
  exact ⟨g, o, e, hr i _ (u32s_get hi)⟩
/-- A slice that the call made itself, of these numbers. -/
structure O32 (w : World) (base : Nat) (p : Option Addr) (cap : Nat) (xs : List Nat) : Prop where
  own : w.ownsRow base 22 1 (.slice p xs.length cap) xs.length (u32s xs)
theorem O32.of_slice {w : World} {base : Nat} {v : Value} {xs : List Nat} (h : w.ownsRow base 22 1 v xs.length (u32s xs)) : ∃ p cap, v = .slice p xs.length cap ∧ O32 w base p cap xs := by
  rcases h.2 with ⟨hv, hn⟩ | ⟨g, cap, cur, hv, _⟩
  · exact ⟨none, 0, by rw [hv, hn], ⟨by rw [← show v = .slice none xs.length 0 from by rw [hv, hn]]; exact h⟩⟩
  · exact ⟨_, _, hv, ⟨by rw [← hv]; exact h⟩⟩
theorem O32.r32 {w : World} {base : Nat} {p : Option Addr} {cap : Nat} {xs : List Nat} (h : O32 w base p cap xs) : R32 w p xs := by
  rcases h.own.2 with ⟨hv, hn⟩ | ⟨g, cap', cur, hv, hg, hh, hc, _, hs, ht⟩
  · exact ⟨fun hne => absurd (List.eq_nil_of_length_eq_zero hn) hne⟩
  · obtain ⟨rfl, -, rfl⟩ : p = some ⟨g, 0, none⟩ ∧ xs.length = xs.length ∧ cap = cap' := by simpa using hv
    refine ⟨fun _ => ⟨g, 0, rfl, fun j v hj => ?_⟩⟩
    rw [Nat.mul_one] at ht
    rw [Nat.zero_add]
    have hj2 := (List.getElem?_eq_some_iff.1 hj).1
    rw [← ht, List.getElem?_take] at hj
    split at hj
    · simp only [World.cell?, hh]
      simpa using hj
    · cases hj
theorem O32.old {w w' : World} {base : Nat} {p : Option Addr} {cap : Nat} {xs : List Nat} (h : O32 w base p cap xs) (hb : Below w.heap.size w w') : O32 w' base p cap xs := by
  refine ⟨h.own.1, ?_⟩
  rcases h.own.2 with h2 | ⟨g, cap', cur, hv, hg, hh, r⟩
  · exact .inl h2
  · exact .inr ⟨g, cap', cur, hv, hg, by rw [hb.block g (Array.getElem?_eq_some_iff.1 hh).1]; exact hh, r⟩
theorem O32.only {w w' : World} {base B : Nat} {p : Option Addr} {cap : Nat} {xs : List Nat} (h : O32 w base p cap xs) (ho : Only B w w') (hB : B < base) : O32 w' base p cap xs := by
  refine ⟨h.own.1, ?_⟩
  rcases h.own.2 with h2 | ⟨g, cap', cur, hv, hg, hh, r⟩
  · exact .inl h2
  · exact .inr ⟨g, cap', cur, hv, hg, by rw [ho.block g (Array.getElem?_eq_some_iff.1 hh).1 (by omega)]; exact hh, r⟩
theorem own_row32 {w2 : World} {b base : Nat} {xs : List Nat} (hr : Row w2 b 22 (u32s xs)) (hb : base ≤ b) (hm : xs.length ≤ 1000000) : O32 w2 base (some ⟨b, 0, none⟩) xs.length xs :=
  ⟨by rw [u32s_length, Nat.mul_one], .inr ⟨b, xs.length, (u32s xs).toArray, rfl, hb, hr, Nat.le_refl _, by unfold maxLen; omega, by simp [u32s_length], by simp [List.take_of_length_le, u32s_length]⟩⟩
theorem bs32 (x : Int) (w : World) : (Instr.buildSlice 45 1 #[(0, .int .u32 x)]).run Try.prog w = .ok (.slice (some ⟨w.heap.size, 0, none⟩) 1 1) (w.alloc (.cells #[.int .u32 x] 22)) := by kernel_rfl
section
variable {o : Oper} {a : Act} {w : World}
/-- A slice of one number that is written out, run. -/
theorem run_op_one32 (parts : Array (Nat × Operand)) (ho : o.op = .buildSlice 45 1 parts) (x : Nat) (hpv : (parts.map fun (i, y) => (i, a.eval y)) = #[(0, .int .u32 (x : Int))]) :
    (execOp a.eval o).run Try.prog w = .ok (.value (.slice (some ⟨w.heap.size, 0, none⟩) 1 1)) (w.alloc (.cells (u32s [x]).toArray 22)) := by
  unfold execOp
  simp only [ho, hpv, Sem.run_bind, bs32, Result.andThen_ok, Sem.run_pure]
  rfl
/-- 'append(s, x...)' onto a slice of the call's own, run. -/
theorem run_op_append32 (s x : Operand) (ho : o.op = .call { callee := .builtin .append, args := #[s, x], argTypes := #[45, 45] }) (base : Nat) (p : Option Addr) (n cap : Nat) (xs : List Nat) (hn : n = xs.length)
    (hs : a.eval s = .slice p n cap) (hown : O32 w base p cap xs) (g m c : Nat) (ys : List Nat) (hx : a.eval x = .slice (some ⟨g, 0, none⟩) m c) (hm : m = ys.length)
    (hy : w.rangeAt g 0 (u32s ys)) (hz : xs.length + ys.length ≤ 1000000) (hb : base ≤ w.heap.size) :
    ∃ p' cap' w', (execOp a.eval o).run Try.prog w = .ok (.value (.slice p' (n + m) cap')) w' ∧ O32 w' base p' cap' (xs ++ ys) ∧ Below base w w' ∧ ∀ N t cs, t ≠ 22 → Row w N t cs → Row w' N t cs := by
  subst hm hn
  rw [← List.length_append]
  obtain ⟨i0, hi, hz0, hz1, hz2⟩ := info_parts info32
  have hnews : ∀ j u, (u32s ys)[j]? = some u → w.cell? ((⟨g, 0, none⟩ : Addr).add j) = some u := by
    intro j u hj
    rw [Addr.add_mid]
    exact hy j u hj
  obtain ⟨v', w', hr, hown', hgrow, _, hat⟩ := run_append_own_at (P := Try.prog) w base 45 o.type 22 i0 (.int .u32 0) 1 4 (by kernel_rfl) hi hz0 hz1 hz2 rfl (by decide) _ _ _ hown.own ⟨g, 0, none⟩ ys.length c (u32s ys) (by rw [u32s_length, Nat.mul_one]) hnews (u32s_one _) (by unfold maxLen; omega) (by omega) hb
  rw [← u32s_append, ← List.length_append] at hown'
  obtain ⟨p', cap', hv, hO⟩ := O32.of_slice hown'
  rw [hv] at hr
  refine ⟨p', cap', w', ?_, hO, ⟨hgrow.os, hgrow.tape, hgrow.output, hgrow.size, fun k hk => hgrow.block k (by omega) (fun e => ?_)⟩, fun N t cs ht hN => hN.of_block (hgrow.block N hN.lt (fun e => ?_))⟩
  · unfold execOp
    simp only [ho, resolve, invoke, builtin, Sem.run_bind, Sem.run_pure, Result.andThen_ok, List.map_toArray, List.map_cons, List.map_nil, hs, hx, hr]
  · rcases hown.own.2 with ⟨hv0, _⟩ | ⟨g, cap0, cur, hv0, hg, _⟩
    · rw [hv0] at e; cases e
    · rw [hv0] at e
      have : k = g := Option.some.inj e
      omega
  · rcases hown.own.2 with ⟨hv0, _⟩ | ⟨g, cap0, cur, hv0, hg, hh, _⟩
    · rw [hv0] at e; cases e
    · rw [hv0] at e
      obtain rfl : N = g := Option.some.inj e
      have := Option.some.inj ((show w.heap[N]? = _ from hN).symm.trans hh)
      exact ht (Obj.cells.inj this).2.1
section
variable {ops : Array Oper} {Q : Exit → Act → World → Prop}
/-- The same, in a region that draws its order. -/
theorem o_append32 {i : Nat} {K : Act → World → Prop} (hi : ops[i]? = some o) (d : Tmp) (hd : o.dst = some d) (hg : Region.wanted o (yielded ops a.tmps) = true) (s x : Operand) (ho : o.op = .call { callee := .builtin .append, args := #[s, x], argTypes := #[45, 45] }) (base : Nat) (p : Option Addr) (n cap : Nat) (xs : List Nat) (hn : n = xs.length)
    (hs : a.eval s = .slice p n cap) (hown : O32 w base p cap xs) (g m c : Nat) (ys : List Nat) (hx : a.eval x = .slice (some ⟨g, 0, none⟩) m c) (hm : m = ys.length)
    (hy : w.rangeAt g 0 (u32s ys)) (hz : xs.length + ys.length ≤ 1000000) (hb : base ≤ w.heap.size)
    (h : ∀ p' cap' w', O32 w' base p' cap' (xs ++ ys) → Below base w w' → (∀ N t cs, t ≠ 22 → Row w N t cs → Row w' N t cs) → K (a.put (some d) (.slice p' (xs ++ ys).length cap')) w') : wpOp Try.prog ops Q i K a w := by
  obtain ⟨p', cap', w', hr, h1, h2, h3⟩ := run_op_append32 s x ho base p n cap xs hn hs hown g m c ys hx hm hy hz hb
  refine o_value _ hi d hd hg hr ?_
  have := h p' cap' w' h1 h2 h3
  rw [List.length_append, ← hn, ← hm] at this
  exact this
end
section
variable {P : Program} {ops : Array Oper} {rest : List Oper} {Q : Exit → Act → World → Prop}
/-- A slice of one number that is written out. -/
theorem arm_one32 (hgd : o.guard = none) (parts : Array (Nat × Operand)) (ho : o.op = .buildSlice 45 1 parts) (x : Nat) (hpv : (parts.map fun (i, y) => (i, a.eval y)) = #[(0, .int .u32 (x : Int))])
    (h : ∀ b w2, Hid (b = w.heap.size) → Row w2 b 22 (u32s [x]) → New w w2 → wpList Try.prog ops Q rest (a.put o.dst (.slice (some ⟨b, 0, none⟩) 1 1)) w2) : wpList Try.prog ops Q (o :: rest) a w := by
  refine wpList_plain hgd fun K hK => ?_
  unfold Oper.wp
  rw [run_op_one32 parts ho x hpv]
  exact hK _ _ (h _ _ rfl (heap_alloc_new _ _) (new_alloc _ _))
end
end
/-- A slice of numbers that came in. -/
structure C32 (w : World) (p : Option Addr) (cap : Nat) (xs : List Nat) : Prop where
  r : R32 w p xs
  lt_ : AllLt 4294967296 xs
  max_ : xs.length ≤ maxLen
theorem came32_of {H : Type} {enc : TypeId × Value → H} {w : World} {base : Nat} {spare : Nat → Bool} {held : Bool} {fuel : Nat} {cs : List Value} {x : DataW H × List MemPlace}
    (h : DataW.trod enc Try.prog w base spare held fuel 45 cs = some x) : ∃ p cap xs, cs = [.slice p xs.length cap] ∧ C32 w p cap xs := by
  rcases open_ints Try.underlying45 Try.underlying22 (by kernel_rfl) h with ⟨rfl, _⟩ | ⟨a, len, cap, zs, rfl, _, hlc, hcm, hzl, _, hc, hwf⟩
  · exact ⟨none, 0, [], rfl, ⟨⟨fun h => absurd rfl h⟩, fun x hx => (by cases hx), by simp⟩⟩
  · have hlz : len ≤ zs.length := by rw [hzl]; split <;> omega
    have hbl : ((zs.take len).map Int.toNat).length = len := by rw [List.length_map, List.length_take]; omega
    have hz : ∀ n ∈ zs, 0 ≤ n ∧ n ≤ 4294967295 := fun n hn => by
      have h := hwf n hn
      simp [Lit.wf, IntKind.min, IntKind.max, IntKind.signed, IntKind.bits] at h; omega
    refine ⟨some a, cap, (zs.take len).map Int.toNat, by rw [hbl], ⟨⟨fun hne => ?_⟩, fun x hx => ?_, by rw [hbl]; omega⟩⟩
    · have hpos : 0 < len := by
        rcases Nat.eq_zero_or_pos len with h0 | h0
        · rw [h0] at hne; simp at hne
        · exact h0
      have hc0 := hc 0 (by omega)
      have hsp : a.spot = none := by
        simp only [Addr.add, if_true] at hc0
        unfold World.cell? at hc0
        split at hc0
        · split at hc0
          · cases hc0
          · rename_i hs; simpa using hs
        · cases hc0
      obtain ⟨g, o, sp⟩ := a
      simp only at hsp
      subst hsp
      refine ⟨g, o, rfl, fun j v hj => ?_⟩
      have hj2 := (List.getElem?_eq_some_iff.1 hj).1
      rw [u32s_length, hbl] at hj2
      have hcj := hc j (by omega)
      rw [Addr.add_mid] at hcj
      rw [hcj, ← hj, u32s_get (by rw [hbl]; exact hj2)]
      have hzj : zs.getD j 0 = zs[j] := by rw [List.getD_eq_getElem?_getD, List.getElem?_eq_getElem (by omega)]; rfl
      have hb := hz _ (List.getElem_mem (l := zs) (n := j) (by omega))
      have : (((zs.take len).map Int.toNat).getD j 0 : Nat) = (zs[j]).toNat := by
        rw [List.getD_eq_getElem?_getD, List.getElem?_map, List.getElem?_take, if_pos hj2, List.getElem?_eq_getElem (by omega)]; rfl
      rw [this, hzj]
      congr 2
      omega
    · simp only [List.mem_map] at hx
      obtain ⟨n, hn, rfl⟩ := hx
      have := hz n (List.mem_of_mem_take hn)
      omega
end Go.Proofs.Ytbbmjjphkmjnbaa.Wd
