import Derived.WalkKit
import Derived.Deep.MidRow
import Derived.Deep.Draws
import Derived.Lib.Hide
import Derived.Deep.QuietTactic
import Derived.BigQuiet
import Derived.OrdersHeld
import Derived.Maps.OwnOps
/-
  Memory, block by block: a block that is known whole ('Row'), a world of which one block alone has changed ('Only'), and the laws of the walk for operations on whole arrays and structs: load, store, new variables, copy. Over whatever program.
-/
namespace Go.Proofs.YtnjmocobncncdaaDoor.Mem
open Go.RowKit
set_option linter.unusedVariables false
set_option linter.unusedSimpArgs false

/-- Block b is a row of these cells, none of them frozen. -/
def Row (w : World) (b : Nat) (t : TypeId) (cs : List Value) : Prop := w.heap[b]? = some (.cells cs.toArray t (0, 0))
/-- No block but b has changed of those that were there. -/
structure Only (b : Nat) (w w' : World) : Prop where
  os : w'.os = w.os
  tape : w'.tape = w.tape
  output : w'.output = w.output
  size : w.heap.size ≤ w'.heap.size
  block : ∀ k, k < w.heap.size → k ≠ b → w'.heap[k]? = w.heap[k]?
/-- A new block, and no other change. -/
structure New (w w' : World) : Prop where
  below : Below w.heap.size w w'
  size : w'.heap.size = w.heap.size + 1
  drawn : w'.drawn = w.drawn

theorem Row.lt {w : World} {b : Nat} {t : TypeId} {cs : List Value} (h : Row w b t cs) : b < w.heap.size := (Array.getElem?_eq_some_iff.1 h).1
theorem Row.cell {w : World} {b : Nat} {t : TypeId} {cs : List Value} (h : Row w b t cs) {i : Nat} {v : Value} (hv : cs[i]? = some v) : w.cell? ⟨b, i, none⟩ = some v := by
  simp [World.cell?, show w.heap[b]? = _ from h, hv]
theorem Row.frozen {w : World} {b : Nat} {t : TypeId} {cs : List Value} (h : Row w b t cs) (i : Nat) : w.frozen? ⟨b, i, none⟩ = false := by
  simp [World.frozen?, show w.heap[b]? = _ from h]
theorem Row.range {w : World} {b : Nat} {t : TypeId} {cs : List Value} (h : Row w b t cs) (o : Nat) (vs : List Value) (hv : ∀ j v, vs[j]? = some v → cs[o + j]? = some v) : w.rangeAt b o vs :=
  fun j v hj => h.cell (hv j v hj)
theorem Row.of_block {w w' : World} {b : Nat} {t : TypeId} {cs : List Value} (h : Row w b t cs) (e : w'.heap[b]? = w.heap[b]?) : Row w' b t cs := e.trans h
theorem Row.below {w w' : World} {b n : Nat} {t : TypeId} {cs : List Value} (h : Row w b t cs) (hb : Below n w w') (hn : b < n) : Row w' b t cs := h.of_block (hb.block b hn)
theorem Row.old {w w' : World} {b : Nat} {t : TypeId} {cs : List Value} (h : Row w b t cs) (hb : Below w.heap.size w w') : Row w' b t cs := h.below hb h.lt
theorem Row.only {w w' : World} {b c : Nat} {t : TypeId} {cs : List Value} (h : Row w b t cs) (ho : Only c w w') (hn : b ≠ c) : Row w' b t cs := h.of_block (ho.block b h.lt hn)
theorem Row.congr {w : World} {b : Nat} {t : TypeId} {cs ds : List Value} (h : Row w b t cs) (e : cs = ds) : Row w b t ds := e ▸ h
theorem Row.inj {w : World} {b : Nat} {t t' : TypeId} {cs ds : List Value} (h : Row w b t cs) (g : Row w b t' ds) : cs = ds := by
  have := Option.some.inj ((show w.heap[b]? = _ from h).symm.trans g)
  simpa using (Obj.cells.inj this).1

theorem range_block {w w' : World} {b o : Nat} {vs : List Value} (h : w.rangeAt b o vs) (e : w'.heap[b]? = w.heap[b]?) : w'.rangeAt b o vs :=
  fun j v hj => by rw [World.cell?_of_block (w := w) (a := ⟨b, o + j, none⟩) e]; exact h j v hj
theorem range_lt {w : World} {b o : Nat} {vs : List Value} (h : w.rangeAt b o vs) (hn : vs ≠ []) : b < w.heap.size := by
  cases vs with
  | nil => exact absurd rfl hn
  | cons v r => have := h 0 v rfl; exact block_lt_of_cell this

theorem Only.refl (b : Nat) (w : World) : Only b w w := ⟨rfl, rfl, rfl, Nat.le_refl _, fun _ _ _ => rfl⟩
theorem Only.trans {b : Nat} {w w1 w2 : World} (h : Only b w w1) (g : Only b w1 w2) : Only b w w2 :=
  ⟨g.os.trans h.os, g.tape.trans h.tape, g.output.trans h.output, Nat.le_trans h.size g.size, fun k hk hn => (g.block k (Nat.lt_of_lt_of_le hk h.size) hn).trans (h.block k hk hn)⟩
theorem Only.of_below {w w' : World} (b : Nat) (h : Below w.heap.size w w') : Only b w w' := ⟨h.os, h.tape, h.output, h.size, fun k hk _ => h.block k hk⟩
theorem Only.below {b n : Nat} {w w' : World} (h : Only b w w') (hn : n ≤ b) (hs : n ≤ w.heap.size) : Below n w w' :=
  ⟨h.os, h.tape, h.output, h.size, fun k hk => h.block k (by omega) (by omega)⟩
theorem Only.setCell (b i : Nat) (w : World) (v : Value) : Only b w (w.setCell ⟨b, i, none⟩ v) :=
  ⟨rfl, rfl, rfl, by simp [World.setCell], fun k _ hn => Below.heap_setCell _ _ _ _ hn⟩
theorem Only.setRow (b : Nat) (w : World) (cs : Array Value) : Only b w (w.setRow b cs) := ⟨rfl, rfl, rfl, by simp, fun k _ hn => setRow_other _ _ _ _ hn⟩
theorem Only.drewN (b : Nat) (w : World) (n : Nat) : Only b w (w.drewN n) := ⟨rfl, rfl, rfl, Nat.le_refl _, fun _ _ _ => rfl⟩
theorem below_drewN (b : Nat) (w : World) (n : Nat) : Below b w (w.drewN n) := ⟨rfl, rfl, rfl, Nat.le_refl _, fun _ _ => rfl⟩
theorem below_step {b : Nat} {w w1 w2 : World} (h : Below b w w1) (hb : b ≤ w1.heap.size) (g : Below w1.heap.size w1 w2) : Below b w w2 := h.trans (g.mono hb)
theorem below_only {b c : Nat} {w w1 w2 : World} (h : Below b w w1) (g : Only c w1 w2) (hc : b ≤ c) (hb : b ≤ w1.heap.size) : Below b w w2 := h.trans (g.below hc hb)
theorem Row.set {w : World} {b i : Nat} {t : TypeId} {cs : List Value} (h : Row w b t cs) (v : Value) : Row (w.setCell ⟨b, i, none⟩ v) b t (cs.set i v) := by
  have := heap_setCell_same w b i cs.toArray t v h
  unfold Row
  rw [this]
  simp
theorem Row.drewN {w : World} {b n : Nat} {t : TypeId} {cs : List Value} (h : Row w b t cs) : Row (w.drewN n) b t cs := h
theorem new_alloc (w : World) (o : Obj) : New w (w.alloc o) := ⟨(Below.refl _ _).alloc (Nat.le_refl _) _, by simp, rfl⟩
theorem New.lt {w w' : World} (h : New w w') : w.heap.size < w'.heap.size := by rw [h.size]; omega

section
variable {P : Program} {ops : Array Oper} {rest : List Oper} {o : Oper} {a : Act} {w : World} {Q : Exit → Act → World → Prop}

/-- A type's zero value, of n cells. -/
def Zero (P : Program) (t : TypeId) (zs : List Value) : Prop := (P.info? t).bind (·.zero) = some (.agg zs.toArray)
/-- 'var x T': a new variable, all zero. -/
theorem arm_alloc (hgd : o.guard = none) (t : TypeId) (ho : o.op = .alloc t) (zs : List Value) (hz : Zero P t zs)
    (h : ∀ b w2, Hid (b = w.heap.size) → Row w2 b t zs → New w w2 → wpList P ops Q rest (a.put o.dst (.pointer (some ⟨b, 0, none⟩))) w2) : wpList P ops Q (o :: rest) a w := by
  refine wpList_plain hgd fun K hK => ?_
  have hr : (execOp a.eval o).run P w = .ok (.value (.pointer (some ⟨w.heap.size, 0, none⟩))) (w.alloc (.cells zs.toArray t)) := by
    unfold Zero at hz
    cases hi : P.info? t with
    | none => simp [hi] at hz
    | some i =>
      simp [hi] at hz
      unfold execOp
      simp [ho, Instr.alloc, zeroValue, typeInfo, hi, hz, newVar, newRow, Value.cells]
  unfold Oper.wp
  rw [hr]
  exact hK _ _ (h _ _ rfl (heap_alloc_new _ _) (new_alloc _ _))
/-- An array or struct that was handed in, in a variable of its own. -/
theorem arm_box (hgd : o.guard = none) (t : TypeId) (x : Operand) (ho : o.op = .box t x) (vs : List Value) (hx : a.eval x = .agg vs.toArray)
    (h : ∀ b w2, Hid (b = w.heap.size) → Row w2 b t vs → New w w2 → wpList P ops Q rest (a.put o.dst (.pointer (some ⟨b, 0, none⟩))) w2) : wpList P ops Q (o :: rest) a w := by
  refine wpList_plain hgd fun K hK => ?_
  have hr : (execOp a.eval o).run P w = .ok (.value (.pointer (some ⟨w.heap.size, 0, none⟩))) (w.alloc (.cells vs.toArray t)) := by
    unfold execOp
    simp [ho, hx, Instr.box, newVar, newRow, Value.cells]
  unfold Oper.wp
  rw [hr]
  exact hK _ _ (h _ _ rfl (heap_alloc_new _ _) (new_alloc _ _))
/-- What a value of many cells is made of. -/
def Sized (P : Program) (t : TypeId) (n : Nat) : Prop := ∃ d : TypeDesc, P.underlying t = some d ∧ d.isRow = true ∧ (P.info? t).map (·.size) = some n
/-- A whole array or struct is read. -/
theorem arm_load (hgd : o.guard = none) (t : TypeId) (x : Operand) (ho : o.op = .load t x) (b off : Nat) (hx : a.eval x = .pointer (some ⟨b, off, none⟩))
    (vs : List Value) (hv : w.rangeAt b off vs) (hs : Sized P t vs.length) (h : wpList P ops Q rest (a.put o.dst (.agg vs.toArray)) w) : wpList P ops Q (o :: rest) a w := by
  obtain ⟨d, hu, hd, hi⟩ := hs
  exact wpList_load_mid hgd t x ho b off hx vs d hv hu hd hi h
/-- What stands in a row with cells laid over it. -/
def lay (cs : List Value) (off : Nat) (vs : List Value) : List Value := cs.take off ++ vs ++ cs.drop (off + vs.length)
def OneCells (vs : List Value) : Prop := ∀ v ∈ vs, v.oneCell' = true
theorem run_storeVar_lay (w : World) (b off : Nat) (t u : TypeId) (cs vs : List Value) (hr : Row w b u cs) (hf : off + vs.length ≤ cs.length) (h1 : OneCells vs) (hi : (P.info? t).map (·.size) = some vs.length) :
    (storeVar t ⟨b, off, none⟩ (.agg vs.toArray)).run P w = .ok () (w.setRow b (lay cs off vs).toArray) := by
  have := run_storeCells_at P b off u vs 0 cs.toArray w hr (by simpa using hf) h1
  cases hq : P.info? t with
  | none => simp [hq] at hi
  | some i =>
    have hs : vs.length = i.size := by simp [hq] at hi; omega
    simp only [Nat.add_zero] at this
    simp [storeVar, sizeOf, typeInfo, hq, Value.cells, hs, this, lay]
theorem row_setRow {w : World} {b : Nat} {u : TypeId} {cs : List Value} (hr : Row w b u cs) (ds : List Value) : Row (w.setRow b ds.toArray) b u ds := setRow_heap w b cs.toArray ds.toArray u (0, 0) hr
/-- A whole array or struct is written. -/
theorem arm_store (hgd : o.guard = none) (t : TypeId) (x y : Operand) (ho : o.op = .store t x y) (b off : Nat) (hx : a.eval x = .pointer (some ⟨b, off, none⟩)) (vs : List Value) (hy : a.eval y = .agg vs.toArray)
    (u : TypeId) (cs : List Value) (hr : Row w b u cs) (hf : off + vs.length ≤ cs.length) (h1 : OneCells vs) (hs : Sized P t vs.length)
    (h : ∀ w2, Row w2 b u (lay cs off vs) → Only b w w2 → Hid (w2.heap.size = w.heap.size) → wpList P ops Q rest (a.put o.dst undef) w2) : wpList P ops Q (o :: rest) a w := by
  obtain ⟨d, hu, hd, hi⟩ := hs
  refine wpList_plain hgd fun K hK => ?_
  unfold Oper.wp execOp
  simp only [ho, hx, hy, Instr.storeAt, Instr.sureAddr, Sem.run_bind, Sem.run_pure, Result.andThen_ok, run_storeVar_lay w b off t u cs vs hr hf h1 hi]
  exact hK _ _ (h _ (row_setRow hr _) (Only.setRow _ _ _) (by simp [Hid]))
theorem lay_all (cs vs : List Value) (h : vs.length = cs.length) : lay cs 0 vs = vs := by simp [lay, h]
/-- The result that lies in a variable of its own. -/
theorem result_row {fn : Func} {p : Tmp} {ty : TypeId} (h : fn.results = #[.cell p ty]) (tmps : Array Value) (w : World) (b : Nat) (u : TypeId) (cs : List Value)
    (hp : tmps.getD p undef = .pointer (some ⟨b, 0, none⟩)) (hr : Row w b u cs) (hs : Sized P ty cs.length) : (results fn tmps).run P w = .ok (.agg cs.toArray) w := by
  obtain ⟨d, hu, hd, hi⟩ := hs
  exact results_cell_row h tmps w b u cs.toArray (0, 0) d hp hr hu (by cases d <;> first | rfl | cases hd) (by simpa using hi)
/-- 'x[i:]' of an array. -/
theorem arm_sliceLow (hgd : o.guard = none) (t : TypeId) (x lo : Operand) (ho : o.op = .slice t x (some lo) none none) (n : Nat) (e : TypeId) (hu : P.underlying t = some (.array n e)) (hse : (P.info? e).map (·.size) = some 1)
    (b off : Nat) (hx : a.eval x = .pointer (some ⟨b, off, none⟩)) (kk : IntKind) (i : Int) (hlo : a.eval lo = .int kk i) (m : Nat) (hm : i = (m : Int)) (hmn : m < n)
    (h : wpList P ops Q rest (a.put o.dst (.slice (some ⟨b, off + m, none⟩) (n - m) (n - m))) w) : wpList P ops Q (o :: rest) a w := by
  subst hm
  refine wpList_plain hgd fun K hK => ?_
  cases hq : P.info? e with
  | none => simp [hq] at hse
  | some ie =>
    have hs : ie.size = 1 := by simpa [hq] using hse
    have hr : (Instr.sliceAt t (.pointer (some ⟨b, off, none⟩)) (some (.int kk (m : Int))) none none).run P w = .ok (.slice (some ⟨b, off + m, none⟩) (n - m) (n - m)) w := by
      have h1 : (m : Int) ≤ (n : Int) := by omega
      have h2 : ¬ n = m := by omega
      have h3 : (⟨b, off, none⟩ : Addr).add m = ⟨b, off + m, none⟩ := Addr.add_mid b off m
      simp [Instr.sliceAt, run_underlying hu, Instr.sureAddr, Instr.sliceBounds, Instr.sliceBound, asIntOf, h1, sizeOf, typeInfo, hq, hs, h2, h3]
      omega
    unfold Oper.wp execOp
    simp only [ho, hx, Option.map_some, Option.map_none, hlo, Sem.run_bind, hr, Result.andThen_ok, Sem.run_pure]
    exact hK _ _ h
/-- 'x[:i]' of an array. -/
theorem arm_sliceHigh (hgd : o.guard = none) (t : TypeId) (x hi : Operand) (ho : o.op = .slice t x none (some hi) none) (n : Nat) (e : TypeId) (hu : P.underlying t = some (.array n e)) (hse : (P.info? e).map (·.size) = some 1)
    (b off : Nat) (hx : a.eval x = .pointer (some ⟨b, off, none⟩)) (kk : IntKind) (i : Int) (hlo : a.eval hi = .int kk i) (m : Nat) (hm : i = (m : Int)) (hmn : m ≤ n) (hn : 0 < n)
    (h : wpList P ops Q rest (a.put o.dst (.slice (some ⟨b, off, none⟩) m n)) w) : wpList P ops Q (o :: rest) a w := by
  subst hm
  refine wpList_plain hgd fun K hK => ?_
  cases hq : P.info? e with
  | none => simp [hq] at hse
  | some ie =>
    have hs : ie.size = 1 := by simpa [hq] using hse
    have hr : (Instr.sliceAt t (.pointer (some ⟨b, off, none⟩)) none (some (.int kk (m : Int))) none).run P w = .ok (.slice (some ⟨b, off, none⟩) m n) w := by
      have h1 : (m : Int) ≤ (n : Int) := by omega
      have h2 : ¬ n = 0 := by omega
      simp [Instr.sliceAt, run_underlying hu, Instr.sureAddr, Instr.sliceBounds, Instr.sliceBound, asIntOf, h1, sizeOf, typeInfo, hq, hs, h2, Addr.add]
      omega
    unfold Oper.wp execOp
    simp only [ho, hx, Option.map_some, Option.map_none, hlo, Sem.run_bind, hr, Result.andThen_ok, Sem.run_pure]
    exact hK _ _ h
/-- 'x[m:]' of a slice: the address is told where something is left of it. -/
theorem arm_reslice (hgd : o.guard = none) (t : TypeId) (x lo : Operand) (ho : o.op = .slice t x (some lo) none none) (e : TypeId) (hu : P.underlying t = some (.slice e)) (hse : (P.info? e).map (·.size) = some 1)
    (g off len cap : Nat) (hx : a.eval x = .slice (some ⟨g, off, none⟩) len cap) (kk : IntKind) (i : Int) (hlo : a.eval lo = .int kk i) (m : Nat) (hm : i = (m : Int)) (hml : m ≤ len) (hlc : len ≤ cap)
    (h : ∀ p, Hid (m < len → p = some ⟨g, off + m, none⟩) → wpList P ops Q rest (a.put o.dst (.slice p (len - m) (cap - m))) w) : wpList P ops Q (o :: rest) a w := by
  subst hm
  refine wpList_plain hgd fun K hK => ?_
  cases hq : P.info? e with
  | none => simp [hq] at hse
  | some ie =>
    have hs : ie.size = 1 := by simpa [hq] using hse
    have hr : (Instr.sliceAt t (.slice (some ⟨g, off, none⟩) len cap) (some (.int kk (m : Int))) none none).run P w = .ok (.slice (if cap = m then some ⟨g, off, none⟩ else some ⟨g, off + m, none⟩) (len - m) (cap - m)) w := by
      have h1 : (m : Int) ≤ (len : Int) := by omega
      have h3 : (⟨g, off, none⟩ : Addr).add m = ⟨g, off + m, none⟩ := Addr.add_mid g off m
      simp [Instr.sliceAt, Instr.slice, run_underlying hu, Instr.sliceBounds, Instr.sliceBound, asIntOf, h1, sizeOf, typeInfo, hq, hs, h3]
      omega
    unfold Oper.wp execOp
    simp only [ho, hx, Option.map_some, Option.map_none, hlo, Sem.run_bind, hr, Result.andThen_ok, Sem.run_pure]
    exact hK _ _ (h _ (fun hlt => if_neg (by omega)))
/-- One cell is written. -/
theorem arm_store1 (hgd : o.guard = none) (t : TypeId) (x y : Operand) (ho : o.op = .store t x y) (b i : Nat) (hx : a.eval x = .pointer (some ⟨b, i, none⟩)) (k : IntKind) (n : Int) (hy : a.eval y = .int k n) (hsz : (P.info? t).map (·.size) = some 1)
    (u : TypeId) (cs : List Value) (hr : Row w b u cs) (hi : i < cs.length)
    (h : ∀ w2, Row w2 b u (cs.set i (.int k n)) → Only b w w2 → Hid (w2.heap.size = w.heap.size) → wpList P ops Q rest (a.put o.dst undef) w2) : wpList P ops Q (o :: rest) a w := by
  refine wpList_plain hgd fun K hK => ?_
  have hst : (storeVar t ⟨b, i, none⟩ (.int k n)).run P w = .ok () (w.setRow b (cs.set i (.int k n)).toArray) := by
    have := run_storeCells_at P b i u [.int k n] 0 cs.toArray w hr (by simp; omega) (by intro v hv; simp at hv; subst hv; rfl)
    cases hq : P.info? t with
    | none => simp [hq] at hsz
    | some ie =>
      have hs : ie.size = 1 := by simpa [hq] using hsz
      have e : cs.set i (.int k n) = cs.take i ++ [.int k n] ++ cs.drop (i + 1) := by rw [List.set_eq_take_append_cons_drop, if_pos hi]; simp
      simp only [Nat.add_zero] at this
      rw [e]
      simpa [storeVar, sizeOf, typeInfo, hq, Value.cells, hs] using this
  unfold Oper.wp execOp
  simp only [ho, hx, hy, Instr.storeAt, Instr.sureAddr, Sem.run_bind, Sem.run_pure, Result.andThen_ok, hst]
  exact hK _ _ (h _ (row_setRow hr _) (Only.setRow _ _ _) (by simp [Hid]))
/-- 'copy(dst, src)' into a row. -/
theorem arm_copy (hgd : o.guard = none) (d s : Operand) (dT sT : TypeId) (ho : o.op = .call { callee := .builtin .copy, args := #[d, s], argTypes := #[dT, sT] }) (e : TypeId) (hu : P.underlying dT = some (.slice e)) (hse : (P.info? e).map (·.size) = some 1)
    (b off dLen dCap : Nat) (hd : a.eval d = .slice (some ⟨b, off, none⟩) dLen dCap) (g go sLen sCap : Nat) (hs : a.eval s = .slice (some ⟨g, go, none⟩) sLen sCap) (vs : List Value) (m : Nat) (hvm : vs.length = m) (hm : m = Nat.min sLen dLen) (hv : w.rangeAt g go vs)
    (u : TypeId) (cs : List Value) (hr : Row w b u cs) (hf : off + vs.length ≤ cs.length) (h1 : OneCells vs)
    (h : ∀ w2, Row w2 b u (lay cs off vs) → Only b w w2 → Hid (w2.heap.size = w.heap.size) → wpList P ops Q rest (a.put o.dst (.int .i64 (m : Int))) w2) : wpList P ops Q (o :: rest) a w := by
  have hn : vs.length = Nat.min sLen dLen := hvm.trans hm
  subst hvm
  obtain ⟨dst, op, ty, pos, after, guard⟩ := o
  simp only at hgd ho
  subst hgd ho
  refine wpList_plain rfl fun K hK => ?_
  have hc := run_copy_row P w dT sT ty e b off dLen dCap ⟨g, go, none⟩ sLen sCap cs.toArray u vs hu hse hr hn (fun j v hj => by rw [Addr.add_mid]; exact hv j v hj) (by simpa using hf) h1
  unfold Oper.wp
  have he : (execOp a.eval { dst := dst, op := Op.call { callee := .builtin .copy, args := #[d, s], argTypes := #[dT, sT] }, type := ty, pos := pos, after := after, guard := none }).run P w = .ok (.value (.int .i64 (vs.length : Int))) (w.setRow b (lay cs off vs).toArray) := by
    rw [BigFrame.execOp_builtin, BigFrame.builtin_copy]
    simp only [List.map_toArray, List.map_cons, List.map_nil, hd, hs, Sem.run_bind, hc, Result.andThen_ok, Sem.run_pure, goInt, lay]
  rw [he]
  exact hK _ _ (h _ (row_setRow hr _) (Only.setRow _ _ _) (by simp [Hid]))

/-- One cell of an array value. -/
theorem arm_index (hgd : o.guard = none) (t : TypeId) (x ix : Operand) (ho : o.op = .index t x ix) (n : Nat) (e : TypeId) (hu : P.underlying t = some (.array n e)) (k : IntKind) (hue : P.underlying e = some (.int k)) (hse : (P.info? e).map (·.size) = some 1)
    (vs : List Value) (hx : a.eval x = .agg vs.toArray) (kk : IntKind) (i : Nat) (hi : a.eval ix = .int kk (i : Int)) (hin : i < n) (v : Value) (hv : vs[i]? = some v)
    (h : wpList P ops Q rest (a.put o.dst v) w) : wpList P ops Q (o :: rest) a w := by
  refine wpList_plain hgd fun K hK => ?_
  cases hq : P.info? e with
  | none => simp [hq] at hse
  | some ie =>
    have hs : ie.size = 1 := by simpa [hq] using hse
    have hr : (Instr.index t (.agg vs.toArray) (.int kk (i : Int))).run P w = .ok v w := by
      simp [Instr.index, asIntOf, run_underlying hu, hin, sizeOf, typeInfo, hq, hs, part, isAgg, run_underlying hue, hv]
    unfold Oper.wp execOp
    simp only [ho, hx, hi, Sem.run_bind, hr, Result.andThen_ok, Sem.run_pure]
    exact hK _ _ h
/-- A composite value. -/
theorem arm_build (hgd : o.guard = none) (t : TypeId) (parts : Array (Nat × Operand)) (ho : o.op = .build t parts) (vs : List Value) (hb : P.built t (parts.map fun (i, x) => (i, a.eval x)).toList = some vs.toArray)
    (h : wpList P ops Q rest (a.put o.dst (.agg vs.toArray)) w) : wpList P ops Q (o :: rest) a w := by
  refine wpList_plain hgd fun K hK => wp_build t parts ho (by rw [hb]; rfl) (by rw [hb]; exact hK _ _ h)

variable {md : Region.Mode}
theorem wpOp_value {i : Nat} {v : Value} {K : Act → World → Prop} {w' : World} (hi : ops[i]? = some o) (hg : o.guard = none) (hr : (execOp a.eval o).run P w = .ok (.value v) w') (h : K (a.put o.dst v) w') : wpOp P ops Q i K a w := by
  unfold wpOp
  rw [hi]
  simp only [Region.wanted, hg, if_true]
  exact .inl (by unfold Oper.wp; rw [hr]; exact h)
theorem wpOp_skip {i : Nat} {K : Act → World → Prop} {w' : World} (hi : ops[i]? = some o) (hg : o.guard = none) (hd : o.dst = none) (hr : (execOp a.eval o).run P w = .ok .skip w') (h : K a w') : wpOp P ops Q i K a w := by
  unfold wpOp
  rw [hi]
  simp only [Region.wanted, hg, if_true]
  exact .inl (by unfold Oper.wp; rw [hr]; show K (a.put o.dst undef) w'; rw [hd]; exact h)
theorem wpOp_call {i : Nat} (d : Tmp) {K : Act → World → Prop} {f : FuncId} {args : Array Value} {R : Ending → World → Prop} (hi : ops[i]? = some o) (hg : o.guard = none) (hd : o.dst = some d) (hr : (execOp a.eval o).run P w = .ok (.enter f args) w)
    (hc : Calls P f args w R) (h : ∀ e w', R e w' → ∃ v, e = .returned v ∧ K (a.put (some d) v) w') : wpOp P ops Q i K a w := by
  unfold wpOp
  rw [hi]
  simp only [Region.wanted, hg, if_true]
  refine .inl ?_
  unfold Oper.wp
  rw [hr]
  exact hc.mono fun e w' hR => by obtain ⟨v, rfl, hk⟩ := h e w' hR; rw [← hd] at hk; exact hk
theorem wpAny_one {i fuel : Nat} {listed : Array Bool} (hr : Region.ready md ops listed = [i]) (h : wpOp P ops Q i (wpAny P md ops Q fuel (listed.setIfInBounds i true)) a w) : wpAny P md ops Q (fuel + 1) listed a w :=
  wpAny_all hr (by simp) (fun j hj => by obtain rfl : j = i := by simpa using hj
                                         exact h)
/-- Two that only read may come up in either order. -/
theorem wpAny_pair {i j fuel : Nat} {oi oj : Oper} {vi vj : Value} {listed : Array Bool} (hi : ops[i]? = some oi) (hj : ops[j]? = some oj) (hr : Region.ready md ops listed = [i, j])
    (hri : Region.ready md ops (listed.setIfInBounds i true) = [j]) (hrj : Region.ready md ops (listed.setIfInBounds j true) = [i]) (hij : i ≠ j) (gi : oi.guard = none) (gj : oj.guard = none)
    (di dj : Tmp) (hdi : oi.dst = some di) (hdj : oj.dst = some dj) (hap : oi.apart ops oj = true) (hs : Region.noSelect ops = true) (ri : (execOp a.eval oi).run P w = .ok (.value vi) w) (rj : (execOp a.eval oj).run P w = .ok (.value vj) w)
    (h : wpAny P md ops Q fuel ((listed.setIfInBounds i true).setIfInBounds j true) ((a.put (some di) vi).put (some dj) vj) w) : wpAny P md ops Q (fuel + 1 + 1) listed a w := by
  rw [← hdi, ← hdj] at h
  obtain ⟨h1, h2, h3⟩ := Oper.apart_spec hap
  have hsi : ∀ cs b, oi.op ≠ .select cs b := fun cs b => Region.noSelect_spec hs i oi cs b hi
  have hsj : ∀ cs b, oj.op ≠ .select cs b := fun cs b => Region.noSelect_spec hs j oj cs b hj
  refine wpAny_all hr (by simp) (fun k hk => ?_)
  have hk' : k = i ∨ k = j := by simpa using hk
  rcases hk' with rfl | rfl
  · refine wpOp_value hi gi ri (wpAny_one hri (wpOp_value hj gj ?_ h))
    rw [execOp_put oj hsj a oi.dst vi h1]; exact rj
  · refine wpOp_value hj gj rj (wpAny_one hrj (wpOp_value (v := vi) (w' := w) hi gi ?_ ?_))
    · rw [execOp_put oi hsi a oj.dst vj h3]; exact ri
    · rw [Array.setIfInBounds_comm _ _ (Ne.symm hij), Act.put_comm a vj vi (fun d hd he => h2 d he hd)]
      exact h
/-- The store of a whole array, run. -/
theorem run_op_store (t : TypeId) (x y : Operand) (ho : o.op = .store t x y) (b off : Nat) (hx : a.eval x = .pointer (some ⟨b, off, none⟩)) (vs : List Value) (hy : a.eval y = .agg vs.toArray)
    (u : TypeId) (cs : List Value) (hr : Row w b u cs) (hf : off + vs.length ≤ cs.length) (h1 : OneCells vs) (hs : Sized P t vs.length) : (execOp a.eval o).run P w = .ok .skip (w.setRow b (lay cs off vs).toArray) := by
  obtain ⟨d, hu, hd, hi⟩ := hs
  unfold execOp
  simp only [ho, hx, hy, Instr.storeAt, Instr.sureAddr, Sem.run_bind, Sem.run_pure, Result.andThen_ok, run_storeVar_lay w b off t u cs vs hr hf h1 hi]
/-- The load of a whole array, run. -/
theorem run_op_load (t : TypeId) (x : Operand) (ho : o.op = .load t x) (b off : Nat) (hx : a.eval x = .pointer (some ⟨b, off, none⟩)) (vs : List Value) (hv : w.rangeAt b off vs) (hs : Sized P t vs.length) : (execOp a.eval o).run P w = .ok (.value (.agg vs.toArray)) w := by
  obtain ⟨d, hu, hd, hi⟩ := hs
  unfold execOp
  simp only [ho, hx, Instr.loadAt, Instr.sureAddr, Sem.run_bind, Sem.run_pure, Result.andThen_ok, run_loadVar_mid w b off t vs d hv hu hd hi]
theorem run_op_move (x : Operand) (ho : o.op = .move x) (v : Value) (hx : a.eval x = v) : ∀ w : World, (execOp a.eval o).run P w = .ok (.value v) w := fun w => by
  unfold execOp; simp only [ho, hx, Sem.run_pure]
theorem run_op_nilCheck (x : Operand) (ho : o.op = .nilCheck x) (p : Addr) (hx : a.eval x = .pointer (some p)) : ∀ w : World, (execOp a.eval o).run P w = .ok (.value (.pointer (some p))) w := fun w => by
  unfold execOp; simp only [ho, hx, Sem.run_pure]
theorem run_op_field (t : TypeId) (x : Operand) (f : Nat) (ho : o.op = .fieldAddr t x f) (p v : Value) (hx : a.eval x = p) (hf : ∀ w : World, (Instr.fieldAt t p f).run P w = .ok v w) : ∀ w : World, (execOp a.eval o).run P w = .ok (.value v) w := fun w => by
  unfold execOp; simp only [ho, hx, Sem.run_bind, hf w, Result.andThen_ok, Sem.run_pure]
theorem wpAny_take0 {i : Nat} {oi : Oper} {fuel : Nat} {listed : Array Bool} {v : Value} (hi : ops[i]? = some oi) (hg : oi.guard = none)
    (d : Tmp) (hd : oi.dst = some d) (hs : Region.noSelect ops = true) (hf : Region.free md ops listed i = true) (hr : (Region.ready md ops listed).contains i = true)
    (hQ : ∀ c a w, Q (.panic c) (a.put (some d) v) w → Q (.panic c) a w) (hy : ∀ w : World, (execOp a.eval oi).run P w = .ok (.value v) w)
    (h : wpAny P md ops Q fuel (listed.setIfInBounds i true) (a.put (some d) v) w) : wpAny P md ops Q (fuel + 1) listed a w :=
  wpAny_take hi hs hf hr (by rw [hd]; exact hQ) (.inl ⟨by simp [Region.wanted, hg], hy⟩) (by rw [hd]; exact h)
theorem run_op_call (f : FuncId) (xs : Array Operand) (ats : Array TypeId) (ho : o.op = .call { callee := .value (.func f), args := xs, argTypes := ats }) (args : Array Value) (hx : xs.map a.eval = args) {fn : Func} (hf : P.funcs[f]? = some fn)
    (hb : fn.body.isNone = false) (hn : (fn.name == "runtime.NumGoroutine") = false) (w : World) : (execOp a.eval o).run P w = .ok (.enter f args) w := by
  obtain ⟨dst, op, ty, pos, after, guard⟩ := o
  simp only at ho
  subst ho
  rw [execOp_call_go, hx]
  simp only [callFunc, Sem.run_bind, run_program, Result.andThen_ok, hf, hn, hb, Bool.false_eq_true, if_false, Sem.run_pure, Array.empty_append, Array.append_empty]
end
end Go.Proofs.YtnjmocobncncdaaDoor.Mem

/-
  More laws of single operations in a region that draws its order: a sum, a part of a slice; a region whose operations and callees change nothing that was there, in a class of worlds. Over whatever program.
-/
namespace Go.Proofs.YtnjmocobncncdaaDoor.Mem
open Go.RowKit
set_option linter.unusedVariables false
set_option linter.unusedSimpArgs false
section
variable {P : Program} {o : Oper} {a : Act}
end
section
variable {P : Program} {ops : Array Oper} {C : World → Prop} {Q : Act → Prop} {a : Act} {o : Oper} {rest : List Oper}
theorem q_value (d : Tmp) (hd : o.dst = some d) (v : Value) (hw : Region.wanted o (yielded ops a.tmps) = true) (hr : ∀ w, C w → (execOp a.eval o).run P w = .ok (.value v) w) (h : wpQuiet P ops C Q rest (a.put (some d) v)) : wpQuiet P ops C Q (o :: rest) a :=
  BigFrame.wpQuiet_want hw fun K hK => ⟨v, fun w hC => by unfold Oper.quietAt; rw [hr w hC]; exact ⟨rfl, rfl⟩, hK _ (by rw [hd]; exact h)⟩
theorem q_call (d : Tmp) (hd : o.dst = some d) (v : Value) (f : FuncId) (args : Array Value) (hw : Region.wanted o (yielded ops a.tmps) = true) (hr : ∀ w, C w → (execOp a.eval o).run P w = .ok (.enter f args) w)
    (hc : ∀ w, C w → Calls P f args w (fun e w'' => e = .returned v ∧ C w'')) (h : wpQuiet P ops C Q rest (a.put (some d) v)) : wpQuiet P ops C Q (o :: rest) a :=
  BigFrame.wpQuiet_want hw fun K hK => ⟨v, fun w hC => by unfold Oper.quietAt; rw [hr w hC]; exact ⟨rfl, hc w hC⟩, hK _ (by rw [hd]; exact h)⟩
end
end Go.Proofs.YtnjmocobncncdaaDoor.Mem

/-
  A region that draws its order, with a condition on the world that is kept throughout it: what only reads under that condition is taken first; what calls, writes or makes memory comes up alone. Over whatever program.
-/
namespace Go.Proofs.YtnjmocobncncdaaDoor.Mem
open Go.RowKit
set_option linter.unusedVariables false
section
variable {P : Program} {ops : Array Oper} {Q : Exit → Act → World → Prop} {md : Region.Mode} {S : World → Prop} {a : Act} {w : World} {fuel : Nat} {listed : Array Bool} {o : Oper}
/-- Take number i first: it yields v in every world that meets the condition. -/
theorem h_take (i : Nat) (v : Value) (hi : ops[i]? = some o) (d : Tmp) (hd : o.dst = some d) (hw : Region.wanted o (yielded ops a.tmps) = true)
    (hs : Region.noSelect ops = true) (hf : Region.free md ops listed i = true) (hr : (Region.ready md ops listed).contains i = true)
    (hQ : ∀ c a w, Q (.panic c) (a.put (some d) v) w → Q (.panic c) a w) (hy : ∀ w, S w → (execOp a.eval o).run P w = .ok (.value v) w) (hS : S w)
    (h : wpAnyH P md ops Q S fuel (listed.setIfInBounds i true) (a.put (some d) v) w) : wpAnyH P md ops Q S (fuel + 1) listed a w :=
  wpAnyH_take hi hs hf hr (by rw [hd]; exact hQ) (.inl ⟨hw, hy⟩) hS (by rw [hd]; exact h)
/-- Take number i first: its guard is against it. -/
theorem h_pass (i : Nat) (hi : ops[i]? = some o) (d : Tmp) (hd : o.dst = some d) (hw : Region.wanted o (yielded ops a.tmps) = false)
    (hs : Region.noSelect ops = true) (hf : Region.free md ops listed i = true) (hr : (Region.ready md ops listed).contains i = true)
    (hQ : ∀ c a w, Q (.panic c) (a.put (some d) undef) w → Q (.panic c) a w) (hS : S w)
    (h : wpAnyH P md ops Q S fuel (listed.setIfInBounds i true) (a.put (some d) undef) w) : wpAnyH P md ops Q S (fuel + 1) listed a w :=
  wpAnyH_take (v := undef) hi hs hf hr (by rw [hd]; exact hQ) (.inr ⟨hw, rfl⟩) hS (by rw [hd]; exact h)
theorem h_one {i : Nat} (hr : Region.ready md ops listed = [i]) (h : wpOp P ops Q i (fun a' w' => S w' ∧ wpAnyH P md ops Q S fuel (listed.setIfInBounds i true) a' w') a w) : wpAnyH P md ops Q S (fuel + 1) listed a w :=
  wpAnyH_all hr (by simp) (fun j hj => by obtain rfl : j = i := by simpa using hj
                                          exact h)
theorem h_two {i j : Nat} (hr : Region.ready md ops listed = [i, j]) (h1 : wpOp P ops Q i (fun a' w' => S w' ∧ wpAnyH P md ops Q S fuel (listed.setIfInBounds i true) a' w') a w)
    (h2 : wpOp P ops Q j (fun a' w' => S w' ∧ wpAnyH P md ops Q S fuel (listed.setIfInBounds j true) a' w') a w) : wpAnyH P md ops Q S (fuel + 1) listed a w :=
  wpAnyH_all hr (by simp) (fun k hk => by
    have hk' : k = i ∨ k = j := by simpa using hk
    rcases hk' with rfl | rfl
    · exact h1
    · exact h2)
theorem o_value {i : Nat} {K : Act → World → Prop} {w' : World} (v : Value) (hi : ops[i]? = some o) (d : Tmp) (hd : o.dst = some d) (hg : Region.wanted o (yielded ops a.tmps) = true) (hr : (execOp a.eval o).run P w = .ok (.value v) w') (h : K (a.put (some d) v) w') : wpOp P ops Q i K a w := by
  unfold wpOp
  rw [hi]
  simp only [hg, if_true]
  exact .inl (by unfold Oper.wp; rw [hr]; rw [← hd] at h; exact h)
theorem o_skip {i : Nat} {K : Act → World → Prop} {w' : World} (hi : ops[i]? = some o) (hd : o.dst = none) (hg : Region.wanted o (yielded ops a.tmps) = true) (hr : (execOp a.eval o).run P w = .ok .skip w') (h : K a w') : wpOp P ops Q i K a w := by
  unfold wpOp
  rw [hi]
  simp only [hg, if_true]
  exact .inl (by unfold Oper.wp; rw [hr]; show K (a.put o.dst undef) w'; rw [hd]; exact h)
theorem o_call {i : Nat} {K : Act → World → Prop} (hi : ops[i]? = some o) (d : Tmp) (hd : o.dst = some d) (hg : Region.wanted o (yielded ops a.tmps) = true) {f : FuncId} {args : Array Value} {R : Ending → World → Prop} (hr : (execOp a.eval o).run P w = .ok (.enter f args) w)
    (hc : Calls P f args w R) (h : ∀ e w', R e w' → ∃ v, e = .returned v ∧ K (a.put (some d) v) w') : wpOp P ops Q i K a w := by
  unfold wpOp
  rw [hi]
  simp only [hg, if_true]
  refine .inl ?_
  unfold Oper.wp
  rw [hr]
  exact hc.mono fun e w' hR => by obtain ⟨v, rfl, hk⟩ := h e w' hR; rw [← hd] at hk; exact hk
end
section
variable {P : Program} {o : Oper} {a : Act} {w : World}
/-- One cell is read. -/
theorem run_op_load1 (t : TypeId) (x : Operand) (ho : o.op = .load t x) (d : TypeDesc) (hu : P.underlying t = some d) (hd : d.isRow = false) (p : Addr) (hx : a.eval x = .pointer (some p)) (v : Value) (hc : w.cell? p = some v) : (execOp a.eval o).run P w = .ok (.value v) w := by
  unfold execOp
  cases d <;> first | (cases hd; done) | simp [ho, hx, Instr.loadAt, Instr.sureAddr, loadVar, isAgg, run_underlying hu, hc]
/-- A new variable, all zero. -/
theorem run_op_alloc (t : TypeId) (ho : o.op = .alloc t) (zs : List Value) (hz : Zero P t zs) : (execOp a.eval o).run P w = .ok (.value (.pointer (some ⟨w.heap.size, 0, none⟩))) (w.alloc (.cells zs.toArray t)) := by
  unfold Zero at hz
  cases hi : P.info? t with
  | none => simp [hi] at hz
  | some i =>
    simp [hi] at hz
    unfold execOp
    simp [ho, Instr.alloc, zeroValue, typeInfo, hi, hz, newVar, newRow, Value.cells]
end
section
variable {P : Program} {ops : Array Oper} {rest : List Oper} {a : Act} {w : World} {Q : Exit → Act → World → Prop}
/-- The operation at hand fills this slot (a guard for an arm: 'with_reducible refine at_slot N ?_' fails at once elsewhere). -/
theorem at_slot (d : Tmp) {op : Op} {ty : TypeId} {pos : String} {af : Array Edge} {gd : Option (Nat × Bool)} (h : wpList P ops Q (⟨some d, op, ty, pos, af, gd⟩ :: rest) a w) : wpList P ops Q (⟨some d, op, ty, pos, af, gd⟩ :: rest) a w := h
end
end Go.Proofs.YtnjmocobncncdaaDoor.Mem

/-
  More laws of the walk over memory: 'x[:]' of an array, the address of an element of many cells, one cell of any kind that is written, a part of a slice with three indexes. Over whatever program.
-/
namespace Go.Proofs.YtnjmocobncncdaaDoor.Mem
open Go.RowKit
set_option linter.unusedVariables false
set_option linter.unusedSimpArgs false
section
variable {P : Program} {ops : Array Oper} {rest : List Oper} {o : Oper} {a : Act} {w : World} {Q : Exit → Act → World → Prop}
theorem run_sliceAll (t : TypeId) (n : Nat) (e : TypeId) (hu : P.underlying t = some (.array n e)) (hse : (P.info? e).map (·.size) = some 1) (b off : Nat) (hn : 0 < n) (w : World) :
    (Instr.sliceAt t (.pointer (some ⟨b, off, none⟩)) none none none).run P w = .ok (.slice (some ⟨b, off, none⟩) n n) w := by
  cases hq : P.info? e with
  | none => simp [hq] at hse
  | some ie =>
    simp [Instr.sliceAt, run_underlying hu, Instr.sureAddr, Instr.sliceBounds, sizeOf, typeInfo, hq, Addr.add]
theorem run_op_sliceAll (t : TypeId) (x : Operand) (ho : o.op = .slice t x none none none) (n : Nat) (e : TypeId) (hu : P.underlying t = some (.array n e)) (hse : (P.info? e).map (·.size) = some 1)
    (b off : Nat) (hx : a.eval x = .pointer (some ⟨b, off, none⟩)) (hn : 0 < n) (w : World) : (execOp a.eval o).run P w = .ok (.value (.slice (some ⟨b, off, none⟩) n n)) w := by
  unfold execOp
  simp only [ho, hx, Option.map_none, Sem.run_bind, run_sliceAll t n e hu hse b off hn, Result.andThen_ok, Sem.run_pure]
end
section
variable {P : Program} {ops : Array Oper} {rest : List Oper} {o : Oper} {a : Act} {w : World} {Q : Exit → Act → World → Prop}
end
section
variable {P : Program} {ops : Array Oper} {rest : List Oper} {o : Oper} {a : Act} {w : World} {Q : Exit → Act → World → Prop}
theorem run_storeV (t : TypeId) (b i : Nat) (v : Value) (h1 : v.oneCell' = true) (hsz : (P.info? t).map (·.size) = some 1) (u : TypeId) (cs : List Value) (hr : Row w b u cs) (hi : i < cs.length) :
    (storeVar t ⟨b, i, none⟩ v).run P w = .ok () (w.setRow b (cs.set i v).toArray) := by
  have hc : v.cells = #[v] := by cases v <;> first | rfl | (cases h1; done)
  have := run_storeCells_at P b i u [v] 0 cs.toArray w hr (by simp; omega) (by intro x hx; simp at hx; subst hx; exact h1)
  cases hq : P.info? t with
  | none => simp [hq] at hsz
  | some ie =>
    have hs : ie.size = 1 := by simpa [hq] using hsz
    have e : cs.set i v = cs.take i ++ [v] ++ cs.drop (i + 1) := by rw [List.set_eq_take_append_cons_drop, if_pos hi]; simp
    simp only [Nat.add_zero] at this
    rw [e]
    simpa [storeVar, sizeOf, typeInfo, hq, hc, hs] using this
/-- One cell of any kind is written. -/
theorem arm_storeV (hgd : o.guard = none) (t : TypeId) (x y : Operand) (ho : o.op = .store t x y) (b i : Nat) (hx : a.eval x = .pointer (some ⟨b, i, none⟩)) (v : Value) (hy : a.eval y = v) (h1 : v.oneCell' = true) (hsz : (P.info? t).map (·.size) = some 1)
    (u : TypeId) (cs : List Value) (hr : Row w b u cs) (hi : i < cs.length)
    (h : ∀ w2, Row w2 b u (cs.set i v) → Only b w w2 → Hid (w2.heap.size = w.heap.size) → wpList P ops Q rest (a.put o.dst undef) w2) : wpList P ops Q (o :: rest) a w := by
  refine wpList_plain hgd fun K hK => ?_
  unfold Oper.wp execOp
  simp only [ho, hx, hy, Instr.storeAt, Instr.sureAddr, Sem.run_bind, Sem.run_pure, Result.andThen_ok, run_storeV t b i v h1 hsz u cs hr hi]
  exact hK _ _ (h _ (row_setRow hr _) (Only.setRow _ _ _) (by simp [Hid]))
/-- The same, run. -/
theorem run_op_storeV (t : TypeId) (x y : Operand) (ho : o.op = .store t x y) (b i : Nat) (hx : a.eval x = .pointer (some ⟨b, i, none⟩)) (v : Value) (hy : a.eval y = v) (h1 : v.oneCell' = true) (hsz : (P.info? t).map (·.size) = some 1)
    (u : TypeId) (cs : List Value) (hr : Row w b u cs) (hi : i < cs.length) : (execOp a.eval o).run P w = .ok .skip (w.setRow b (cs.set i v).toArray) := by
  unfold execOp
  simp only [ho, hx, hy, Instr.storeAt, Instr.sureAddr, Sem.run_bind, Sem.run_pure, Result.andThen_ok, run_storeV t b i v h1 hsz u cs hr hi]
end
section
variable {P : Program} {ops : Array Oper} {rest : List Oper} {o : Oper} {a : Act} {w : World} {Q : Exit → Act → World → Prop}
theorem add_zero (ad : Addr) : ad.add 0 = ad := by simp [Addr.add]
theorem map_add_zero (p : Option Addr) : p.map (·.add 0) = p := by cases p <;> simp [add_zero]
end
end Go.Proofs.YtnjmocobncncdaaDoor.Mem

/-
  Structs that are written out, some of whose fields are whole arrays or structs: what cells they have. Over whatever program.
-/
namespace Go.Proofs.YtnjmocobncncdaaDoor.Mem
open Go.RowKit
set_option linter.unusedVariables false

theorem lay_cons (cs vs : List Value) (off : Nat) (c : Value) (h : off + (vs.length + 1) ≤ cs.length) : lay (cs.set off c) (off + 1) vs = lay cs off (c :: vs) := by
  unfold lay
  have h1 : (cs.set off c).take (off + 1) = cs.take off ++ [c] := by
    rw [List.set_eq_take_append_cons_drop, if_pos (by omega), List.take_append, List.length_take, Nat.min_eq_left (by omega)]
    simp [List.take_take]
  have h2 : (cs.set off c).drop (off + 1 + vs.length) = cs.drop (off + (c :: vs).length) := by
    rw [List.drop_set_of_lt (by omega)]
    simp only [List.length_cons]
    congr 1; omega
  rw [h1, h2]
  simp
theorem lay_length (cs vs : List Value) (off : Nat) (h : off + vs.length ≤ cs.length) : (lay cs off vs).length = cs.length := by
  unfold lay
  simp only [List.length_append, List.length_take, List.length_drop]
  omega
theorem fold_lay : ∀ (vs cs : List Value) (off k : Nat), off + k + vs.length ≤ cs.length →
    (vs.zipIdx k).foldl (fun (a : Array Value) (p : Value × Nat) => a.setIfInBounds (off + p.2) p.1) cs.toArray = (lay cs (off + k) vs).toArray
  | [], cs, off, k, h => by simp [lay]
  | c :: vs, cs, off, k, h => by
    simp only [List.length_cons] at h
    rw [List.zipIdx_cons, List.foldl_cons]
    simp only [List.setIfInBounds_toArray]
    rw [fold_lay vs (cs.set (off + k) c) off (k + 1) (by simp; omega), ← Nat.add_assoc, lay_cons cs vs (off + k) c (by omega)]
theorem fill_step (place : Nat → Option (Nat × Nat)) (cs : List Value) (i off n : Nat) (v : Value) (vs : List Value) (rest : List (Nat × Value)) (hp : place i = some (off, n)) (hv : v.cells = vs.toArray) (hn : vs.length = n) (hf : off + n ≤ cs.length) :
    Instr.fill place cs.toArray ((i, v) :: rest) = Instr.fill place (lay cs off vs).toArray rest := by
  have hc : ¬ ((v.cells.size ≠ n || off + v.cells.size > cs.toArray.size) = true) := by
    rw [hv]; simp only [List.size_toArray]; simp; omega
  have hz := fold_lay vs cs off 0 (by omega)
  simp only [Nat.add_zero] at hz
  rw [Instr.fill, hp]
  simp only [hc, Bool.false_eq_true, if_false]
  rw [hv, ← hz]
  simp
theorem fill_done (place : Nat → Option (Nat × Nat)) (cs : List Value) : Instr.fill place cs.toArray [] = some cs.toArray := rfl
end Go.Proofs.YtnjmocobncncdaaDoor.Mem

/-
  Maps whose keys are structs or arrays, block by block: a map that holds these entries ('MapAt'), and what a look-up, a store at a new key, and the length of it do. Over whatever program.
-/
namespace Go.Proofs.YtnjmocobncncdaaDoor.Mp
open Go.RowKit Go.Proofs.YtnjmocobncncdaaDoor.Mem
set_option linter.unusedVariables false
set_option linter.unusedSimpArgs false

section
variable {α : Type} {P : Program}
/-- Block b is a map of these entries, in the order in which they came. -/
structure MapAt (w : World) (b : Nat) (V : α → Value) (l : List (α × Value)) : Prop where
  ex : ∃ es clock, w.heap[b]? = some (.map es clock) ∧ es.toList.map (fun e => (e.key, e.val)) = l.map fun p => (V p.1, p.2)
variable {w w' : World} {b : Nat} {V : α → Value} {l : List (α × Value)}
theorem MapAt.lt (h : MapAt w b V l) : b < w.heap.size := by
  obtain ⟨es, clock, hb, _⟩ := h.ex
  exact (Array.getElem?_eq_some_iff.1 hb).1
theorem MapAt.of_block (h : MapAt w b V l) (e : w'.heap[b]? = w.heap[b]?) : MapAt w' b V l := by
  obtain ⟨es, clock, hb, he⟩ := h.ex
  exact ⟨es, clock, e.trans hb, he⟩
theorem MapAt.below {n : Nat} (h : MapAt w b V l) (hb : Below n w w') (hn : b < n) : MapAt w' b V l := h.of_block (hb.block b hn)
theorem MapAt.old (h : MapAt w b V l) (hb : Below w.heap.size w w') : MapAt w' b V l := h.below hb h.lt
theorem MapAt.only {c : Nat} (h : MapAt w b V l) (ho : Only c w w') (hn : b ≠ c) : MapAt w' b V l := h.of_block (ho.block b h.lt hn)
theorem MapAt.drewN {n : Nat} (h : MapAt w b V l) : MapAt (w.drewN n) b V l := h.of_block rfl
theorem MapAt.row {t : TypeId} {cs : List Value} {c : Nat} (h : MapAt w b V l) (g : Row w c t cs) : b ≠ c := by
  rintro rfl
  obtain ⟨es, clock, hb, _⟩ := h.ex
  have := hb.symm.trans (show w.heap[b]? = _ from g)
  cases this
/-- 'len(m)'. -/
theorem MapAt.len (h : MapAt w b V l) {kt t e : TypeId} (ht : P.underlying t = some (.map kt e)) (ty : TypeId) : (Builtin.len_ #[t] ty #[.map (some b)]).run P w = .ok (.int .i64 (l.length : Int)) w := by
  obtain ⟨es, clock, hb, he⟩ := h.ex
  have hs : es.size = l.length := by have := congrArg List.length he; simpa using this
  simp [Builtin.len_, run_underlying ht, MapKept.run_getObj_map hb, goInt, hs]
end
section
variable {α : Type} [DecidableEq α] {P : Program}
/-- What a type's values need to be keys: they can be asked for, and two are the same just if what they stand for is. -/
structure KeyKind (P : Program) (kt : TypeId) (V : α → Value) (ok : α → Prop) : Prop where
  check : ∀ (x : α), ok x → ∀ (em : Bool) (w : World), (Instr.checkKey em 10000 kt (V x)).run P w = .ok () w
  eq : ∀ (x y : α), ok x → ok y → ∀ w : World, (Op.equal kt (V x) (V y)).run P w = .ok (decide (x = y)) w
  slow : ∃ d, P.underlying kt = some d ∧ ∀ v v', Instr.sameNow d v v' = none
/-- What is known under a key. -/
def look (l : List (α × Value)) (x : α) : Option Value := (l.find? fun p => decide (p.1 = x)).map (·.2)
variable {w w' : World} {b : Nat} {V : α → Value} {l : List (α × Value)} {kt : TypeId} {ok : α → Prop}
theorem run_ask (K : KeyKind P kt V ok) (x : α) (hx : ok x) (w : World) : ∀ (l : List (α × Value)) (es : List MapEntry) (i : Nat), (∀ p ∈ l, ok p.1) → es.map (fun e => (e.key, e.val)) = (l.map fun p => (V p.1, p.2)) →
    ∃ r, (Instr.findAsking kt (V x) es i).run P w = .ok r w ∧ r.map (·.2) = look l x
  | [], [], i, _, _ => ⟨none, by simp [Instr.findAsking], rfl⟩
  | [], e :: es, i, _, h => by simp at h
  | p :: l, [], i, _, h => by simp at h
  | p :: l, e :: es, i, hok, h => by
    simp only [List.map_cons, List.cons.injEq, Prod.mk.injEq] at h
    obtain ⟨⟨hk, hv⟩, h⟩ := h
    obtain ⟨r, hr, hl⟩ := run_ask K x hx w l es (i + 1) (fun q hq => hok q (by simp [hq])) h
    have he := K.eq x p.1 hx (hok p (by simp)) w
    by_cases hxp : x = p.1
    · refine ⟨some (i, e.val), ?_, ?_⟩
      · have he2 : decide (x = p.1) = true := by simpa using hxp
        rw [he2] at he
        simp [Instr.findAsking, hk, he]
      · simp [look, ← hxp, hv]
    · refine ⟨r, ?_, ?_⟩
      · simp [Instr.findAsking, hk, he, hxp, hr]
      · rw [hl]; simp [look, List.find?_cons, Ne.symm hxp]
theorem run_find (K : KeyKind P kt V ok) (x : α) (hx : ok x) (w : World) (l : List (α × Value)) (es : List MapEntry) (hok : ∀ p ∈ l, ok p.1) (h : es.map (fun e => (e.key, e.val)) = (l.map fun p => (V p.1, p.2))) :
    ∃ r, (Instr.findKey kt (V x) es).run P w = .ok r w ∧ r.map (·.2) = look l x := by
  obtain ⟨d, hd, hs⟩ := K.slow
  cases es with
  | nil =>
    have hl : l = [] := by simpa using h.symm
    subst hl
    exact ⟨none, by simp [Instr.findKey, run_underlying hd, Instr.findNow], rfl⟩
  | cons e es =>
    obtain ⟨r, hr, hl⟩ := run_ask K x hx w l (e :: es) 0 hok h
    exact ⟨r, by simp only [Instr.findKey, Sem.run_bind, run_underlying hd, Result.andThen_ok, Instr.findNow, hs, hr], hl⟩
/-- 'v, ok := m[k]'. -/
theorem MapAt.lookup (h : MapAt w b V l) (K : KeyKind P kt V ok) {t e : TypeId} (ht : P.underlying t = some (.map kt e)) {z : Value} (hz : (zeroValue e).run P w = .ok z w) (hok : ∀ p ∈ l, ok p.1) (x : α) (hx : ok x) :
    (Instr.lookup t (.map (some b)) (V x) true).run P w = .ok (.tuple #[(look l x).getD z, .bool (look l x).isSome]) w := by
  obtain ⟨es, clock, hb, he⟩ := h.ex
  obtain ⟨r, hr, hl⟩ := run_find K x hx w l es.toList hok he
  rw [← hl]
  cases r with
  | none => simp [Instr.lookup, run_underlying ht, MapKept.run_getObj_map hb, K.check x hx, hr, hz]
  | some iv => simp [Instr.lookup, run_underlying ht, MapKept.run_getObj_map hb, K.check x hx, hr]
/-- 'm[k] = v' at a key that is not there. -/
theorem MapAt.store (h : MapAt w b V l) (K : KeyKind P kt V ok) {t e : TypeId} (ht : P.underlying t = some (.map kt e)) (hok : ∀ p ∈ l, ok p.1) (x : α) (hx : ok x) (hno : look l x = none) (v : Value) :
    ∃ w', (Instr.mapUpdate t (.map (some b)) (V x) v).run P w = .ok () w' ∧ MapAt w' b V (l ++ [(x, v)]) ∧ Only b w w' ∧ w'.heap.size = w.heap.size := by
  obtain ⟨es, clock, hb, he⟩ := h.ex
  obtain ⟨r, hr, hl⟩ := run_find K x hx w l es.toList hok he
  rw [hno] at hl
  cases r with
  | some iv => simp at hl
  | none =>
    refine ⟨{ w with heap := w.heap.setIfInBounds b (.map (es.push ⟨V x, v, clock⟩) (clock + 1)) }, ?_, ⟨es.push ⟨V x, v, clock⟩, clock + 1, ?_, ?_⟩, ⟨rfl, rfl, rfl, by simp, fun k _ hn => ?_⟩, by simp⟩
    · simp [Instr.mapUpdate, run_underlying ht, MapKept.run_getObj_map hb, K.check x hx, hr, MapKept.run_setObj_map _ hb]
    · have hlt := (Array.getElem?_eq_some_iff.1 hb).1
      simp [hlt]
    · simp [he]
    · simp only [Array.getElem?_setIfInBounds, if_neg (Ne.symm hn)]
theorem look_none {l : List (α × Value)} {x : α} : look l x = none ↔ ∀ p ∈ l, p.1 ≠ x := by
  unfold look
  rw [Option.map_eq_none_iff, List.find?_eq_none]
  simp
end
section
variable {P : Program} {ops : Array Oper} {rest : List Oper} {o : Oper} {a : Act} {w : World} {Q : Exit → Act → World → Prop}
variable {α : Type} {b : Nat} {V : α → Value} {l : List (α × Value)} {kt : TypeId} {ok : α → Prop}
end
end Go.Proofs.YtnjmocobncncdaaDoor.Mp

/-
  Operations of whatever guard, once they are wanted; a struct written out, run; '==' and '!=' of integers, run; two results, the first of which lies in a variable of its own. Over whatever program.
-/
namespace Go.Proofs.YtnjmocobncncdaaDoor.Mem
open Go.RowKit
set_option linter.unusedVariables false
section
variable {P : Program} {ops : Array Oper} {rest : List Oper} {o : Oper} {a : Act} {w : World} {Q : Exit → Act → World → Prop}
/-- An operation that is wanted and yields a value. -/
theorem arm_want (v : Value) (d : Tmp) (hd : o.dst = some d) (hw : Region.wanted o (yielded ops a.tmps) = true) (hr : (execOp a.eval o).run P w = .ok (.value v) w) (h : wpList P ops Q rest (a.put (some d) v) w) : wpList P ops Q (o :: rest) a w :=
  BigFrame.wpList_want hw fun K hK => by
    unfold Oper.wp
    rw [hr]
    rw [← hd] at h
    exact hK _ _ h
/-- A struct or array that is written out, run. -/
theorem run_op_build (t : TypeId) (parts : Array (Nat × Operand)) (ho : o.op = .build t parts) (vs : List Value) (hb : P.built t (parts.map fun (i, x) => (i, a.eval x)).toList = some vs.toArray) (w : World) : (execOp a.eval o).run P w = .ok (.value (.agg vs.toArray)) w := by
  unfold execOp
  simp only [ho, Sem.run_bind, run_build w t _ vs.toArray hb, Result.andThen_ok, Sem.run_pure]
end
/-- Two results, the first of which lies in a variable of its own. -/
theorem result_row2 {P : Program} {fn : Func} {p u : Tmp} {ty : TypeId} (h : fn.results = #[.cell p ty, .tmp u]) (tmps : Array Value) (w : World) (b : Nat) (t : TypeId) (cs : List Value) (v : Value)
    (hp : tmps.getD p undef = .pointer (some ⟨b, 0, none⟩)) (hu : tmps.getD u undef = v) (hr : Row w b t cs) (hs : Sized P ty cs.length) : (results fn tmps).run P w = .ok (.tuple #[.agg cs.toArray, v]) w := by
  obtain ⟨d, hud, hd, hi⟩ := hs
  have hp' : tmps[p]?.getD undef = .pointer (some ⟨b, 0, none⟩) := by simpa using hp
  have hu' : tmps[u]?.getD undef = v := by simpa using hu
  have hl := run_loadVar_row (P := P) w b t ty cs.toArray (0, 0) d hr hud (by cases d <;> first | rfl | cases hd) (by simpa using hi)
  simp [results, h, hp', hu', asAddr, hl]
end Go.Proofs.YtnjmocobncncdaaDoor.Mem
