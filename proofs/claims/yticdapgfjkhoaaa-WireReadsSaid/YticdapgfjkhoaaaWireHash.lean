/-
  The contracts of bytes.Clone and of wire's Writer.Bytes, Writer.Hash, over this seat's translation.
-/
import Derived.Test.YticdapgfjkhoaaaWireNum
namespace Go.Proofs.Yticdapgfjkhoaaa.Wi
open Go.ChangeShapes Go.WideShapes Go.ChangeAt Go.RowKit Go.Proofs.Yticdapgfjkhoaaa.Mem Go.Proofs.Yticdapgfjkhoaaa.Bt Go.Proofs.Yticdapgfjkhoaaa.Tg
set_option linter.unusedVariables false

/-- A copy in memory of its own. -/
structure ClonePost (w : World) (bs : List Nat) (e : Ending) (w' : World) : Prop where
  ex : ∃ p cap, e = .returned (.slice p bs.length cap) ∧ Own w' w.heap.size p cap bs
  bel : Below w.heap.size w w'
set_option maxRecDepth 100000 in
theorem clone_any (bs : List Nat) (p : Option Addr) (cap : Nat) (w : World) (h : Rd w p bs) (hn : p = none → bs.length = 0 ∧ cap = 0) (hl : bs.length ≤ 1000000) :
    Calls Try.prog 33 #[.slice p bs.length cap] w (ClonePost w bs) := by
  have H := Lib.hid h; clear h
  cases p with
  | none =>
    obtain ⟨h0, rfl⟩ := hn rfl
    obtain rfl : bs = [] := List.eq_nil_of_length_eq_zero h0
    rw [show ([] : List Nat).length = 0 from rfl]
    have hE : ∀ w : World, (binOp .eql 26 (.slice none 0 0) (.slice none 0 0)).run Try.prog w = .ok (.bool true) w := fun w => by kernel_rfl
    go_enter Try.func33, Try.ntmps33
    go_wp2_with fail
    go_ret
    exact ⟨⟨none, 0, rfl, own_nil _ _⟩, Below.refl _ _⟩
  | some ad =>
    clear hn
    have hE : ∀ w : World, (binOp .eql 26 (.slice (some ad) bs.length cap) (.slice none 0 0)).run Try.prog w = .ok (.bool false) w := fun w => by kernel_rfl
    go_enter Try.func33, Try.ntmps33
    go_wp2_with (first
      | ((with_reducible refine at_slot 5 ?_); (refine arm_buildSlice (o := ⟨some 5, _, _, _, _, _⟩) rfl 0 _ rfl [] #[] (by simp) bs0 ?_); intro b1 w1 hb1 hR1 hN1)
      | ((with_reducible refine at_slot 7 ?_); (refine arm_append2 (o := ⟨some 7, _, _, _, _, _⟩) rfl _ _ rfl w.heap.size (some ⟨b1, 0, none⟩) 0 0 [] rfl rfl (own_new hR1 (by have := hb1.out; omega)) (some ad) bs.length cap bs rfl rfl (fun h => by cases h) (H.out.below hN1.below).at_ (by rw [List.length_nil]; omega) (by have := hN1.below.size; omega) ?_); intro p2 cap2 w2 hO2 hS2))
    go_ret
    refine ⟨⟨p2, cap2, rfl, hO2⟩, hN1.below.trans (hS2.below (fun k hk => by cases hk) (fun k hk => ?_) hN1.below.size)⟩
    have e1 := hb1.out
    have e2 : b1 = k := Option.some.inj hk
    omega
theorem own_none {w : World} {base : Nat} {p : Option Addr} {cap : Nat} {bs : List Nat} (h : Own w base p cap bs) : p = none → bs.length = 0 ∧ cap = 0 := fun e => by
  subst e
  rcases h.own.2 with ⟨hv, hn⟩ | ⟨g, cap', cur, hv, _⟩
  · exact ⟨hn, (Value.slice.inj hv).2.2⟩
  · cases (Value.slice.inj hv).1
set_option maxRecDepth 100000 in
theorem wBytes_any (base W : Nat) (p : Option Addr) (cap : Nat) (bs : List Nat) (w : World) (h : Wr w base W p cap bs) (hl : bs.length ≤ 1000000) :
    Calls Try.prog 13 #[.pointer (some ⟨W, 0, none⟩)] w (ClonePost w bs) := by
  have hc : w.cell? ⟨W, 0, none⟩ = some (.slice p bs.length cap) := h.row.cell rfl
  have H := Lib.hid h; clear h
  go_enter Try.func13, Try.ntmps13
  go_wp2_with fail
  refine (clone_any bs p cap w H.out.own.rd (own_none H.out.own) hl).mono ?_
  rintro e w1 ⟨⟨q, c, rfl, hO⟩, hB⟩
  go_wp2_with fail
  go_ret
  exact ⟨⟨q, c, rfl, hO⟩, hB⟩
section
variable {o : Oper} {a : Act} {w : World}
/-- 'append(s, x...)' onto a slice of the call's own, run. -/
theorem run_op_append2 (s x : Operand) (ho : o.op = .call { callee := .builtin .append, args := #[s, x], argTypes := #[26, 26] }) (base : Nat) (p : Option Addr) (n cap : Nat) (bs : List Nat) (hn : n = bs.length)
    (hs : a.eval s = .slice p n cap) (hown : Own w base p cap bs) (q : Option Addr) (m c : Nat) (ys : List Nat) (hx : a.eval x = .slice q m c) (hm : m = ys.length) (hq : q = none → m = 0 ∧ c = 0)
    (hy : ys ≠ [] → ∃ g go, q = some ⟨g, go, none⟩ ∧ w.rangeAt g go (u8s ys)) (hz : bs.length + ys.length ≤ 1000000000) (hb : base ≤ w.heap.size) :
    ∃ p' cap' w', (execOp a.eval o).run Try.prog w = .ok (.value (.slice p' (n + m) cap')) w' ∧ Own w' base p' cap' (bs ++ ys) ∧ Step none p p' w w' := by
  subst hm hn
  rw [← List.length_append]
  obtain ⟨i0, hi, hz0, hz1, hz2⟩ := info_parts info5
  cases q with
  | none =>
    obtain ⟨h0, rfl⟩ := hq rfl
    have hnil : ys = [] := List.eq_nil_of_length_eq_zero h0
    subst hnil
    have hrun := run_append_owned_none (P := Try.prog) (w := w) base 26 o.type 5 i0 1 (by kernel_rfl) hi _ _ _ hown.own
    refine ⟨p, cap, w, ?_, by rw [List.append_nil]; exact hown, Step.refl _ _ _⟩
    rw [List.append_nil]
    simp [execOp, ho, resolve, invoke, builtin, hs, hx, hrun, Result.andThen]
  | some ad =>
    have hnews : ∀ j u, (u8s ys)[j]? = some u → w.cell? (ad.add j) = some u := by
      intro j u hj
      have hne : ys ≠ [] := by intro e; subst e; simp [u8s] at hj
      obtain ⟨g, go, e, hr⟩ := hy hne
      have e' : ad = ⟨g, go, none⟩ := Option.some.inj e
      rw [e', Addr.add_mid]
      exact hr j u hj
    obtain ⟨v', w', hr, hown', hgrow, _, hat⟩ := run_append_own_at (P := Try.prog) w base 26 o.type 5 i0 (.int .u8 0) 1 1 (by kernel_rfl) hi hz0 hz1 hz2 rfl (by decide) _ _ _ hown.own ad ys.length c (u8s ys) (by rw [u8s_length, Nat.mul_one]) hnews (u8s_one _) (by unfold maxLen; omega) (by omega) hb
    rw [← u8s_append, ← List.length_append] at hown'
    obtain ⟨p', cap', hv, hO⟩ := Own.of_slice hown'
    have e1 : ∀ (p : Option Addr) (n c : Nat), (Value.slice p n c).ownBlock = blk p := fun p n c => by cases p <;> rfl
    rw [hv, e1, e1] at hat
    rw [e1] at hgrow
    rw [hv] at hr
    refine ⟨p', cap', w', ?_, hO, ⟨hgrow.os, hgrow.tape, hgrow.output, hgrow.size, fun k hk _ h2 => hgrow.block k hk (fun e => h2 e.symm), ?_⟩⟩
    · unfold execOp
      simp only [ho, resolve, invoke, builtin, Sem.run_bind, Sem.run_pure, Result.andThen_ok, List.map_toArray, List.map_cons, List.map_nil, hs, hx, hr]
    · rcases hat with e | e
      · exact .inl e
      · exact .inr ⟨_, e, Nat.le_refl _⟩
end
section
variable {ops : Array Oper} {Q : Exit → Act → World → Prop} {o : Oper} {a : Act} {w : World}
/-- The same, in a region that draws its order. -/
theorem o_append {i : Nat} {K : Act → World → Prop} (hi : ops[i]? = some o) (d : Tmp) (hd : o.dst = some d) (hg : Region.wanted o (yielded ops a.tmps) = true) (s x : Operand) (ho : o.op = .call { callee := .builtin .append, args := #[s, x], argTypes := #[26, 26] }) (base : Nat) (p : Option Addr) (n cap : Nat) (bs : List Nat) (hn : n = bs.length)
    (hs : a.eval s = .slice p n cap) (hown : Own w base p cap bs) (q : Option Addr) (m c : Nat) (ys : List Nat) (hx : a.eval x = .slice q m c) (hm : m = ys.length) (hq : q = none → m = 0 ∧ c = 0)
    (hy : ys ≠ [] → ∃ g go, q = some ⟨g, go, none⟩ ∧ w.rangeAt g go (u8s ys)) (hz : bs.length + ys.length ≤ 1000000000) (hb : base ≤ w.heap.size)
    (h : ∀ p' cap' w', Own w' base p' cap' (bs ++ ys) → Step none p p' w w' → K (a.put (some d) (.slice p' (n + m) cap')) w') : wpOp Try.prog ops Q i K a w := by
  obtain ⟨p', cap', w', hr, h1, h2⟩ := run_op_append2 s x ho base p n cap bs hn hs hown q m c ys hx hm hq hy hz hb
  exact o_value _ hi d hd hg hr (h p' cap' w' h1 h2)
end
theorem fieldW (b : Nat) (w : World) : (Instr.fieldAt 28 (.pointer (some ⟨b, 0, none⟩)) 0).run Try.prog w = .ok (.pointer (some ⟨b, 0, none⟩)) w := by kernel_rfl
set_option maxHeartbeats 1000000 in
set_option maxRecDepth 100000 in
theorem wHash_any (hh : List Nat) (base W : Nat) (p : Option Addr) (cap : Nat) (bs : List Nat) (w : World) (h : Wr w base W p cap bs) (hb : base ≤ w.heap.size) (hl : bs.length ≤ 900000) (hlen : hh.length = 32) :
    Calls Try.prog 32 #[.pointer (some ⟨W, 0, none⟩), .agg (u8s hh).toArray] w (WrPost w base W p (.tuple #[]) (bs ++ hh)) := by
  have H := Lib.hid h; have HL := Lib.hid hlen
  clear h hlen
  go_enter Try.func32, Try.ntmps32
  go_wp2_with (first
    | ((with_reducible refine at_slot 3 ?_); (refine arm_box (o := ⟨some 3, _, _, _, _, _⟩) rfl _ _ rfl (u8s hh) rfl ?_); intro B w1 hB hR1 hN1))
  have eB := hB.out
  have hW1 := H.out.old hN1.below
  have HWz : Hid (Wr w1.drew base W p cap bs) := Lib.hid (hW1.old ((Below.refl _ _).drew))
  have hBz : Row w1.drew B 31 (u8s hh) := hR1
  have hpB : blk p ≠ some B := fun e => by have := (own_blk H.out.own e).2.1; omega
  have hWB : W ≠ B := by have := H.out.lt; omega
  have hS1 : Step (some W) p p w w1.drew := Step.of_below _ _ (hN1.below.trans ((Below.refl _ _).drew))
  have HPB := Lib.hid (And.intro hpB hWB)
  have hbz : base ≤ w1.drew.heap.size := Nat.le_trans hb hS1.size
  clear eB hW1 hR1 hN1 hB hpB hWB
  refine wp_region_held (S := fun w' => True) (by kernel_rfl) ?_
  change wpAnyH _ _ _ _ _ _ _ _ w1.drew
  generalize w1.drew = wz at HWz hBz hS1 hbz ⊢
  have hS : True := True.intro
  refine h_take 0 (.pointer (some ⟨W, 0, none⟩)) rfl 4 rfl (by kernel_rfl) (by kernel_rfl) (by kernel_rfl) (by kernel_rfl) (fun _ _ _ h => h) (fun w' _ => by kernel_rfl) hS ?_
  simp only [Act.put, List.setIfInBounds_toArray, List.set_cons_zero, List.set_cons_succ]
  refine h_take 1 (.pointer (some ⟨W, 0, none⟩)) rfl 5 rfl (by kernel_rfl) (by kernel_rfl) (by kernel_rfl) (by kernel_rfl) (fun _ _ _ h => h) (fun w' _ => by kernel_rfl) hS ?_
  simp only [Act.put, List.setIfInBounds_toArray, List.set_cons_zero, List.set_cons_succ]
  refine h_take 2 (.pointer (some ⟨W, 0, none⟩)) rfl 6 rfl (by kernel_rfl) (by kernel_rfl) (by kernel_rfl) (by kernel_rfl) (fun _ _ _ h => h) (fun w' _ => by kernel_rfl) hS ?_
  simp only [Act.put, List.setIfInBounds_toArray, List.set_cons_zero, List.set_cons_succ]
  refine h_take 3 (.pointer (some ⟨W, 0, none⟩)) rfl 7 rfl (by kernel_rfl) (by kernel_rfl) (by kernel_rfl) (by kernel_rfl) (fun _ _ _ h => h) (fun w' _ => by kernel_rfl) hS ?_
  simp only [Act.put, List.setIfInBounds_toArray, List.set_cons_zero, List.set_cons_succ]
  refine h_take 5 (.slice (some ⟨B, 0, none⟩) 32 32) rfl 9 rfl (by kernel_rfl) (by kernel_rfl) (by kernel_rfl) (by kernel_rfl) (fun _ _ _ h => h) (fun w' _ => run_op_sliceAll _ _ rfl 32 5 (by kernel_rfl) (by kernel_rfl) B 0 rfl (by omega) w') hS ?_
  simp only [Act.put, List.setIfInBounds_toArray, List.set_cons_zero, List.set_cons_succ]
  refine h_one (i := 4) (by kernel_rfl) (o_value (.slice p bs.length cap) rfl 8 rfl (by kernel_rfl) (run_op_load1 _ _ rfl (.slice 5) (by kernel_rfl) rfl _ rfl _ (HWz.out.row.cell rfl)) ?_)
  refine ⟨hS, ?_⟩
  simp only [Act.put, List.setIfInBounds_toArray, List.set_cons_zero, List.set_cons_succ]
  obtain ⟨p2, cap2, w2, hr2, hO2, hS2⟩ := run_op_append2 (o := ⟨some 10, .call { callee := .builtin .append, args := #[.tmp 8, .tmp 9], argTypes := #[26, 26] }, 26, "wire.go:31", #[⟨4, .data⟩, ⟨5, .data⟩], none⟩) (a := { tmps := #[.pointer (some ⟨W, 0, none⟩), .agg (u8s hh).toArray, undef, .pointer (some ⟨B, 0, none⟩), .pointer (some ⟨W, 0, none⟩), .pointer (some ⟨W, 0, none⟩), .pointer (some ⟨W, 0, none⟩), .pointer (some ⟨W, 0, none⟩), .slice p bs.length cap, .slice (some ⟨B, 0, none⟩) 32 32, undef, undef, undef], defers := [] }) (w := wz)
    _ _ rfl base p bs.length cap bs rfl rfl HWz.out.own (some ⟨B, 0, none⟩) 32 32 hh rfl HL.out.symm (fun h => by cases h) (fun _ => ⟨B, 0, rfl, hBz.range 0 _ (fun j v hj => by rw [Nat.zero_add]; exact hj)⟩) (by rw [HL.out]; omega) hbz
  have hW2 := HWz.out.row.of_block (hS2.block W HWz.out.lt (by simp) HWz.out.apart)
  refine h_one (i := 6) (by kernel_rfl) (o_value _ rfl 10 rfl (by kernel_rfl) hr2 ?_)
  refine ⟨hS, ?_⟩
  simp only [Act.put, List.setIfInBounds_toArray, List.set_cons_zero, List.set_cons_succ]
  refine h_take 7 (.pointer (some ⟨W, 0, none⟩)) rfl 11 rfl (by kernel_rfl) (by kernel_rfl) (by kernel_rfl) (by kernel_rfl) (fun _ _ _ h => h) (fun w' _ => by kernel_rfl) hS ?_
  simp only [Act.put, List.setIfInBounds_toArray, List.set_cons_zero, List.set_cons_succ]
  refine h_take 8 (.pointer (some ⟨W, 0, none⟩)) rfl 12 rfl (by kernel_rfl) (by kernel_rfl) (by kernel_rfl) (by kernel_rfl) (fun _ _ _ h => h) (fun w' _ => by kernel_rfl) hS ?_
  simp only [Act.put, List.setIfInBounds_toArray, List.set_cons_zero, List.set_cons_succ]
  refine h_one (i := 9) (by kernel_rfl) (o_skip rfl rfl (by kernel_rfl) (run_op_storeV _ _ _ rfl W 0 rfl (.slice p2 (bs.length + 32) cap2) rfl rfl (by kernel_rfl) _ _ hW2 (by rw [List.length_cons]; omega)) ?_)
  have hR3 := row_setRow hW2 ([Value.slice p bs.length cap].set 0 (.slice p2 (bs.length + 32) cap2))
  have hO3 := Only.setRow W w2 ([Value.slice p bs.length cap].set 0 (.slice p2 (bs.length + 32) cap2)).toArray
  generalize w2.setRow W ([Value.slice p bs.length cap].set 0 (.slice p2 (bs.length + 32) cap2)).toArray = w3 at hR3 hO3 ⊢
  refine ⟨hS, ?_⟩
  refine wpAnyH_done (by kernel_rfl) ?_ _
  have hst := wr_stored HWz.out.row HWz.out.apart hS2 hO2 HWz.out.low (by rw [List.length_append, HL.out]; exact hR3) hO3
  clear hR3 hO3 hW2 hr2 hO2 hBz hS
  go_wp2_with fail
  go_end0
  exact ⟨rfl, p2, cap2, hst.1, hS1.trans hst.2⟩
end Go.Proofs.Yticdapgfjkhoaaa.Wi
