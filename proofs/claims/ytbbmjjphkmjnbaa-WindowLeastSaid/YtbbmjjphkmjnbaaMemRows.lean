/-
  More laws of the walk over memory: 'x[:]' of an array, the address of an element of many cells, one cell of any kind that is written, a part of a slice with three indexes. Over whatever program.
-/
import Derived.Test.YtbbmjjphkmjnbaaMem
namespace Go.Proofs.Ytbbmjjphkmjnbaa.Mem
open Go.RowKit
set_option linter.unusedVariables false
set_option linter.unusedSimpArgs false
section
variable {P : Program} {ops : Array Oper} {rest : List Oper} {o : Oper} {a : Act} {w : World} {Q : Exit → Act → World → Prop}
theorem run_sliceAll (t : TypeId) (n : Nat) (e : TypeId) (hu : P.underlying t = some (.array n e)) (hse : (P.info? e).map (·.size) = some 1) (b off : Nat) (hn : 0 < n) (w : World) :
    (Instr.sliceAt t (.pointer (some ⟨b, off, none⟩)) none none none).run P w = .ok (.slice (some ⟨b, off, none⟩) n n) w := by
  cases hq : P.info? e with
  | none => simp [hq] at hse
  | some ie =>
    simp [Instr.sliceAt, run_underlying hu, Instr.sureAddr, Instr.sliceBounds, sizeOf, typeInfo, hq, Addr.add]
theorem run_op_sliceAll (t : TypeId) (x : Operand) (ho : o.op = .slice t x none none none) (n : Nat) (e : TypeId) (hu : P.underlying t = some (.array n e)) (hse : (P.info? e).map (·.size) = some 1)
    (b off : Nat) (hx : a.eval x = .pointer (some ⟨b, off, none⟩)) (hn : 0 < n) (w : World) : (execOp a.eval o).run P w = .ok (.value (.slice (some ⟨b, off, none⟩) n n)) w := by
  unfold execOp
  simp only [ho, hx, Option.map_none, Sem.run_bind, run_sliceAll t n e hu hse b off hn, Result.andThen_ok, Sem.run_pure]
/-- 'x[:]' of an array. -/
theorem arm_sliceAll (hgd : o.guard = none) (t : TypeId) (x : Operand) (ho : o.op = .slice t x none none none) (n : Nat) (e : TypeId) (hu : P.underlying t = some (.array n e)) (hse : (P.info? e).map (·.size) = some 1)
    (b off : Nat) (hx : a.eval x = .pointer (some ⟨b, off, none⟩)) (hn : 0 < n) (h : wpList P ops Q rest (a.put o.dst (.slice (some ⟨b, off, none⟩) n n)) w) : wpList P ops Q (o :: rest) a w := by
  refine wpList_plain hgd fun K hK => ?_
  unfold Oper.wp
  rw [run_op_sliceAll t x ho n e hu hse b off hx hn]
  exact hK _ _ h
end
section
variable {P : Program} {ops : Array Oper} {rest : List Oper} {o : Oper} {a : Act} {w : World} {Q : Exit → Act → World → Prop}
/-- The address of an element of some cells. -/
theorem arm_indexN (hgd : o.guard = none) (t : TypeId) (x ix : Operand) (ho : o.op = .indexAddr t x ix) (e : TypeId) (n : Nat) (hu : P.underlying t = some (.slice e)) (hse : (P.info? e).map (·.size) = some n)
    (g off len cap : Nat) (hx : a.eval x = .slice (some ⟨g, off, none⟩) len cap) (kk : IntKind) (k : Nat) (hi : a.eval ix = .int kk (k : Int)) (hk : k < len) (h : wpList P ops Q rest (a.put o.dst (.pointer (some ⟨g, off + k * n, none⟩))) w) : wpList P ops Q (o :: rest) a w := by
  refine wpList_plain hgd fun K hK => ?_
  cases hq : P.info? e with
  | none => simp [hq] at hse
  | some ie =>
    have hs : ie.size = n := by simpa [hq] using hse
    have h3 : (⟨g, off, none⟩ : Addr).add (k * n) = ⟨g, off + k * n, none⟩ := Addr.add_mid g off (k * n)
    have hr : (execOp a.eval o).run P w = .ok (.value (.pointer (some ⟨g, off + k * n, none⟩))) w := by
      unfold execOp
      simp [ho, hx, hi, Instr.indexAt, asIntOf, run_underlying hu, sizeOf, typeInfo, hq, hs, hk, h3]
    unfold Oper.wp
    rw [hr]
    exact hK _ _ h
end
theorem only_new {w w1 w2 : World} {b R : Nat} (h : Only b w w1) (g : Only R w1 w2) (hR : w.heap.size ≤ R) : Only b w w2 :=
  ⟨g.os.trans h.os, g.tape.trans h.tape, g.output.trans h.output, Nat.le_trans h.size g.size, fun k hk hn => (g.block k (Nat.lt_of_lt_of_le hk h.size) (by omega)).trans (h.block k hk hn)⟩
section
variable {P : Program} {ops : Array Oper} {rest : List Oper} {o : Oper} {a : Act} {w : World} {Q : Exit → Act → World → Prop}
theorem run_storeV (t : TypeId) (b i : Nat) (v : Value) (h1 : v.oneCell' = true) (hsz : (P.info? t).map (·.size) = some 1) (u : TypeId) (cs : List Value) (hr : Row w b u cs) (hi : i < cs.length) :
    (storeVar t ⟨b, i, none⟩ v).run P w = .ok () (w.setRow b (cs.set i v).toArray) := by
  have hc : v.cells = #[v] := by cases v <;> first | rfl | (cases h1; done)
  have := run_storeCells_at P b i u [v] 0 cs.toArray w hr (by simp; omega) (by intro x hx; simp at hx; subst hx; exact h1)
  cases hq : P.info? t with
  | none => simp [hq] at hsz
  | some ie =>
    have hs : ie.size = 1 := by simpa [hq] using hsz
    have e : cs.set i v = cs.take i ++ [v] ++ cs.drop (i + 1) := by rw [List.set_eq_take_append_cons_drop, if_pos hi]; simp
    simp only [Nat.add_zero] at this
    rw [e]
    simpa [storeVar, sizeOf, typeInfo, hq, hc, hs] using this
/-- One cell of any kind is written. -/
theorem arm_storeV (hgd : o.guard = none) (t : TypeId) (x y : Operand) (ho : o.op = .store t x y) (b i : Nat) (hx : a.eval x = .pointer (some ⟨b, i, none⟩)) (v : Value) (hy : a.eval y = v) (h1 : v.oneCell' = true) (hsz : (P.info? t).map (·.size) = some 1)
    (u : TypeId) (cs : List Value) (hr : Row w b u cs) (hi : i < cs.length)
    (h : ∀ w2, Row w2 b u (cs.set i v) → Only b w w2 → Hid (w2.heap.size = w.heap.size) → wpList P ops Q rest (a.put o.dst undef) w2) : wpList P ops Q (o :: rest) a w := by
  refine wpList_plain hgd fun K hK => ?_
  unfold Oper.wp execOp
  simp only [ho, hx, hy, Instr.storeAt, Instr.sureAddr, Sem.run_bind, Sem.run_pure, Result.andThen_ok, run_storeV t b i v h1 hsz u cs hr hi]
  exact hK _ _ (h _ (row_setRow hr _) (Only.setRow _ _ _) (by simp [Hid]))
/-- The same, run. -/
theorem run_op_storeV (t : TypeId) (x y : Operand) (ho : o.op = .store t x y) (b i : Nat) (hx : a.eval x = .pointer (some ⟨b, i, none⟩)) (v : Value) (hy : a.eval y = v) (h1 : v.oneCell' = true) (hsz : (P.info? t).map (·.size) = some 1)
    (u : TypeId) (cs : List Value) (hr : Row w b u cs) (hi : i < cs.length) : (execOp a.eval o).run P w = .ok .skip (w.setRow b (cs.set i v).toArray) := by
  unfold execOp
  simp only [ho, hx, hy, Instr.storeAt, Instr.sureAddr, Sem.run_bind, Sem.run_pure, Result.andThen_ok, run_storeV t b i v h1 hsz u cs hr hi]
end
section
variable {P : Program} {ops : Array Oper} {rest : List Oper} {o : Oper} {a : Act} {w : World} {Q : Exit → Act → World → Prop}
theorem add_zero (ad : Addr) : ad.add 0 = ad := by simp [Addr.add]
theorem map_add_zero (p : Option Addr) : p.map (·.add 0) = p := by cases p <;> simp [add_zero]
/-- Where a part that begins m places on lies. -/
def onP (p : Option Addr) (m cap : Nat) : Option Addr := if cap = m then p else p.map (·.add m)
theorem onP_none (m cap : Nat) : onP none m cap = none := by unfold onP; split <;> rfl
theorem onP_some (g off m cap : Nat) (h : m < cap) : onP (some ⟨g, off, none⟩) m cap = some ⟨g, off + m, none⟩ := by
  unfold onP
  rw [if_neg (by omega)]
  simp [Addr.add_mid]
theorem onP_zero (p : Option Addr) (cap : Nat) : onP p 0 cap = p := by unfold onP; rw [map_add_zero]; split <;> rfl
theorem run_op_tail (t : TypeId) (x lo : Operand) (ho : o.op = .slice t x (some lo) none none) (e : TypeId) (hu : P.underlying t = some (.slice e)) (hse : (P.info? e).map (·.size) = some 1)
    (p : Option Addr) (len cap : Nat) (hx : a.eval x = .slice p len cap) (kk : IntKind) (i : Int) (hlo : a.eval lo = .int kk i) (m : Nat) (hm : i = (m : Int)) (hml : m ≤ len) (w : World) : (execOp a.eval o).run P w = .ok (.value (.slice (onP p m cap) (len - m) (cap - m))) w := by
  subst hm
  cases hq : P.info? e with
  | none => simp [hq] at hse
  | some ie =>
    have hs : ie.size = 1 := by simpa [hq] using hse
    have hr : (Instr.sliceAt t (.slice p len cap) (some (.int kk (m : Int))) none none).run P w = .ok (.slice (onP p m cap) (len - m) (cap - m)) w := by
      have h1 : (m : Int) ≤ (len : Int) := by omega
      simp [Instr.sliceAt, Instr.slice, run_underlying hu, Instr.sliceBounds, Instr.sliceBound, asIntOf, h1, hml, sizeOf, typeInfo, hq, hs, onP]
    unfold execOp
    simp only [ho, hx, Option.map_some, Option.map_none, hlo, Sem.run_bind, hr, Result.andThen_ok, Sem.run_pure]
/-- 'x[m:]' of a slice, nil or not. -/
theorem arm_tail (hgd : o.guard = none) (t : TypeId) (x lo : Operand) (ho : o.op = .slice t x (some lo) none none) (e : TypeId) (hu : P.underlying t = some (.slice e)) (hse : (P.info? e).map (·.size) = some 1)
    (p : Option Addr) (len cap : Nat) (hx : a.eval x = .slice p len cap) (kk : IntKind) (i : Int) (hlo : a.eval lo = .int kk i) (m : Nat) (hm : i = (m : Int)) (hml : m ≤ len)
    (h : wpList P ops Q rest (a.put o.dst (.slice (onP p m cap) (len - m) (cap - m))) w) : wpList P ops Q (o :: rest) a w := by
  refine wpList_plain hgd fun K hK => ?_
  unfold Oper.wp
  rw [run_op_tail t x lo ho e hu hse p len cap hx kk i hlo m hm hml]
  exact hK _ _ h
/-- 'x[:m:m]' of a slice, nil or not. -/
theorem arm_slice3 (hgd : o.guard = none) (t : TypeId) (x hi mx : Operand) (ho : o.op = .slice t x none (some hi) (some mx)) (e : TypeId) (hu : P.underlying t = some (.slice e)) (hse : (P.info? e).map (·.size) = some 1)
    (p : Option Addr) (len cap : Nat) (hx : a.eval x = .slice p len cap) (k1 k2 : IntKind) (i : Int) (hhi : a.eval hi = .int k1 i) (hmx : a.eval mx = .int k2 i) (m : Nat) (hm : i = (m : Int)) (hmc : m ≤ cap)
    (h : wpList P ops Q rest (a.put o.dst (.slice p m m)) w) : wpList P ops Q (o :: rest) a w := by
  subst hm
  refine wpList_plain hgd fun K hK => ?_
  cases hq : P.info? e with
  | none => simp [hq] at hse
  | some ie =>
    have hs : ie.size = 1 := by simpa [hq] using hse
    have hr : (Instr.sliceAt t (.slice p len cap) none (some (.int k1 (m : Int))) (some (.int k2 (m : Int)))).run P w = .ok (.slice p m m) w := by
      have h1 : (m : Int) ≤ (cap : Int) := by omega
      have h2 : (if m = 0 then p else p.map (·.add 0)) = p := by rw [map_add_zero]; split <;> rfl
      simp [Instr.sliceAt, Instr.slice, run_underlying hu, Instr.sliceBounds, Instr.sliceBound, asIntOf, h1, hmc, sizeOf, typeInfo, hq, hs, h2]
    unfold Oper.wp execOp
    simp only [ho, hx, Option.map_some, Option.map_none, hhi, hmx, Sem.run_bind, hr, Result.andThen_ok, Sem.run_pure]
    exact hK _ _ h
/-- 'x[:m]' of a slice, nil or not. -/
theorem arm_headS (hgd : o.guard = none) (t : TypeId) (x hi : Operand) (ho : o.op = .slice t x none (some hi) none) (e : TypeId) (hu : P.underlying t = some (.slice e)) (hse : (P.info? e).map (·.size) = some 1)
    (p : Option Addr) (len cap : Nat) (hx : a.eval x = .slice p len cap) (k1 : IntKind) (i : Int) (hhi : a.eval hi = .int k1 i) (m : Nat) (hm : i = (m : Int)) (hmc : m ≤ cap)
    (h : wpList P ops Q rest (a.put o.dst (.slice p m cap)) w) : wpList P ops Q (o :: rest) a w := by
  subst hm
  refine wpList_plain hgd fun K hK => ?_
  cases hq : P.info? e with
  | none => simp [hq] at hse
  | some ie =>
    have hs : ie.size = 1 := by simpa [hq] using hse
    have hr : (Instr.sliceAt t (.slice p len cap) none (some (.int k1 (m : Int))) none).run P w = .ok (.slice p m cap) w := by
      have h1 : (m : Int) ≤ (cap : Int) := by omega
      have h2 : (if cap = 0 then p else p.map (·.add 0)) = p := by rw [map_add_zero]; split <;> rfl
      simp [Instr.sliceAt, Instr.slice, run_underlying hu, Instr.sliceBounds, Instr.sliceBound, asIntOf, h1, hmc, sizeOf, typeInfo, hq, hs, h2]
    unfold Oper.wp execOp
    simp only [ho, hx, Option.map_some, Option.map_none, hhi, Sem.run_bind, hr, Result.andThen_ok, Sem.run_pure]
    exact hK _ _ h
/-- 'x[l:h]' of a slice, nil or not. -/
theorem run_op_mid (t : TypeId) (x lo hi : Operand) (ho : o.op = .slice t x (some lo) (some hi) none) (e : TypeId) (hu : P.underlying t = some (.slice e)) (hse : (P.info? e).map (·.size) = some 1)
    (p : Option Addr) (len cap : Nat) (hx : a.eval x = .slice p len cap) (k1 k2 : IntKind) (i j : Int) (hlo : a.eval lo = .int k1 i) (hhi : a.eval hi = .int k2 j) (l h : Nat) (hi' : i = (l : Int)) (hj' : j = (h : Int)) (hlh : l ≤ h) (hhc : h ≤ cap) :
    ∀ w : World, (execOp a.eval o).run P w = .ok (.value (.slice (onP p l cap) (h - l) (cap - l))) w := fun w => by
  subst hi' hj'
  cases hq : P.info? e with
  | none => simp [hq] at hse
  | some ie =>
    have hs : ie.size = 1 := by simpa [hq] using hse
    have hr : (Instr.sliceAt t (.slice p len cap) (some (.int k1 (l : Int))) (some (.int k2 (h : Int))) none).run P w = .ok (.slice (onP p l cap) (h - l) (cap - l)) w := by
      have h1 : (h : Int) ≤ (cap : Int) := by omega
      have h2 : (l : Int) ≤ (h : Int) := by omega
      simp [Instr.sliceAt, Instr.slice, run_underlying hu, Instr.sliceBounds, Instr.sliceBound, asIntOf, h1, h2, sizeOf, typeInfo, hq, hs, hhc, hlh, onP]
    unfold execOp
    simp only [ho, hx, Option.map_some, Option.map_none, hlo, hhi, Sem.run_bind, hr, Result.andThen_ok, Sem.run_pure]
end
end Go.Proofs.Ytbbmjjphkmjnbaa.Mem
