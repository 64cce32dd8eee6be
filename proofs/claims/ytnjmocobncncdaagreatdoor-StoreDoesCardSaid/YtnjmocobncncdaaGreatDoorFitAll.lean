import Derived.Test.YtnjmocobncncdaaGreatDoorMemAll
import Derived.ChangeKeysEq
import Derived.Laws.StructEq
import Derived.ProofKit
import Derived.OpenShut
/-
  '==' and '!=' between values of any type that is compared cell by cell (bools, integers, strings, and arrays and structs of such): true just if their cells are the same. Over whatever program.
-/
namespace Go.Proofs.YtnjmocobncncdaaGreatDoor.Mem
open Go.RowKit
set_option linter.unusedVariables false

/-- A part of some cells. -/
def chunk (cs : List Value) (o n : Nat) : List Value := (cs.drop o).take n
/-- Fields one behind the other, from o up to n. -/
def tileB (P : Program) : List Field → Nat → Nat → Bool
  | [], o, n => o == n
  | f :: fs, o, n => f.offset == o && f.name != "_" && tileB P fs (o + P.cellsOf f.type) n
/-- The cells that a value of a type has. -/
def Fit (P : Program) : Nat → TypeId → List Value → Prop
  | 0, _, _ => False
  | d + 1, t, cs => match P.underlying t with
    | some .bool => ∃ b, cs = [.bool b]
    | some (.int k) => ∃ n, cs = [.int k n]
    | some .string => ∃ s, cs = [.string s]
    | some (.array n e) => (P.info? e).isSome = true ∧ cs.length = n * P.cellsOf e ∧ ∀ i, i < n → Fit P d e (chunk cs (i * P.cellsOf e) (P.cellsOf e))
    | some (.struct fs) => P.stoodInHeld t = false ∧ tileB P fs.toList 0 cs.length = true ∧ ∀ f ∈ fs.toList, Fit P d f.type (chunk cs f.offset (P.cellsOf f.type))
    | _ => False
/-- The value of some cells. -/
def ofCells (P : Program) (t : TypeId) (cs : List Value) : Value := match P.underlying t with
  | some (.array _ _) => .agg cs.toArray
  | some (.struct _) => .agg cs.toArray
  | _ => cs.getD 0 undef
theorem chunk_all {cs : List Value} {n : Nat} (h : cs.length = n) : chunk cs 0 n = cs := by unfold chunk; rw [List.drop_zero, List.take_of_length_le (Nat.le_of_eq h)]
theorem tile_eq {P : Program} {xs ys : List Value} (hl : xs.length = ys.length) : ∀ (fs : List Field) (o : Nat), tileB P fs o xs.length = true → (∀ f ∈ fs, chunk xs f.offset (P.cellsOf f.type) = chunk ys f.offset (P.cellsOf f.type)) → xs.drop o = ys.drop o
  | [], o, h, _ => by
    unfold tileB at h
    have h : o = xs.length := by simpa using h
    rw [List.drop_eq_nil_of_le (by omega), List.drop_eq_nil_of_le (by omega)]
  | f :: fs, o, h, hc => by
    unfold tileB at h
    simp only [Bool.and_eq_true, beq_iff_eq] at h
    obtain ⟨⟨h1, _⟩, h3⟩ := h
    have e := hc f (by simp)
    have r := tile_eq hl fs (o + P.cellsOf f.type) h3 (fun g hg => hc g (by simp [hg]))
    rw [h1] at e
    unfold chunk at e
    rw [← List.take_append_drop (P.cellsOf f.type) (xs.drop o), ← List.take_append_drop (P.cellsOf f.type) (ys.drop o), e, List.drop_drop, List.drop_drop, r]
theorem tile_name {P : Program} {n : Nat} : ∀ (fs : List Field) (o : Nat), tileB P fs o n = true → ∀ f ∈ fs, f.name ≠ "_"
  | [], _, _, f, hf => by cases hf
  | g :: fs, o, h, f, hf => by
    unfold tileB at h
    simp only [Bool.and_eq_true, bne_iff_ne, ne_eq] at h
    rcases List.mem_cons.1 hf with rfl | hf
    · exact h.1.2
    · exact tile_name fs _ h.2 f hf
theorem items_eq {c : Nat} {xs ys : List Value} : ∀ (n : Nat), xs.length = n * c → ys.length = n * c → (∀ i, i < n → chunk xs (i * c) c = chunk ys (i * c) c) → xs = ys
  | n, hx, hy, h => by
    apply List.ext_getElem (by rw [hx, hy])
    intro j h1 h2
    have hc : 0 < c := by
      rcases Nat.eq_zero_or_pos c with h0 | h0
      · rw [h0, Nat.mul_zero] at hx; omega
      · exact h0
    have hj : j / c < n := by rw [Nat.div_lt_iff_lt_mul hc]; omega
    have hm := Nat.mod_lt j hc
    have hd : j / c * c + j % c = j := by rw [Nat.mul_comm]; exact Nat.div_add_mod j c
    have e := congrArg (fun l => l[j % c]?) (h _ hj)
    unfold chunk at e
    simp only [List.getElem?_take, hm, if_true, List.getElem?_drop, hd] at e
    rw [List.getElem?_eq_getElem h1, List.getElem?_eq_getElem h2] at e
    exact Option.some.inj e
section
variable {P : Program}
theorem fit_und {d : Nat} {t : TypeId} {cs : List Value} (h : Fit P d t cs) : ∃ k, P.underlying t = some k := by
  cases d with
  | zero => exact absurd h (by simp [Fit])
  | succ d =>
    cases hu : P.underlying t with
    | none => unfold Fit at h; rw [hu] at h; exact absurd h (by simp)
    | some k => exact ⟨k, rfl⟩
theorem run_part_fit (w : World) {d : Nat} {e : TypeId} {xs : List Value} {off : Nat} (h : Fit P d e (chunk xs off (P.cellsOf e))) : (part e xs.toArray off).run P w = .ok (ofCells P e (chunk xs off (P.cellsOf e))) w := by
  cases d with
  | zero => exact absurd h (by simp [Fit])
  | succ d =>
    obtain ⟨k, hu⟩ := fit_und h
    obtain ⟨i, hi⟩ := info_of_underlying hu
    unfold Fit at h
    unfold ofCells
    rw [hu] at h ⊢
    have row : (isAgg e).run P w = .ok true w → (part e xs.toArray off).run P w = .ok (.agg (chunk xs off (P.cellsOf e)).toArray) w := fun ha => by
      unfold part
      simp only [Sem.run_bind, ha, Result.andThen_ok, if_true, run_sizeOf w hi, Sem.run_pure]
      congr 2
      apply Array.ext'
      simp [chunk, List.extract]
    have one : (isAgg e).run P w = .ok false w → ∀ v, chunk xs off (P.cellsOf e) = [v] → (part e xs.toArray off).run P w = .ok v w := fun ha v hv => by
      have hg : xs.toArray[off]? = some v := getElem?_of_chunk (by simpa [chunk] using hv)
      unfold part
      simp only [Sem.run_bind, ha, Result.andThen_ok, Bool.false_eq_true, if_false, hg, Sem.run_pure]
    cases k <;> first | (exact h.elim) | skip
    · obtain ⟨b, hb⟩ := h
      rw [hb]
      exact one (by simp [isAgg, run_underlying hu]) _ hb
    · obtain ⟨b, hb⟩ := h
      rw [hb]
      exact one (by simp [isAgg, run_underlying hu]) _ hb
    · obtain ⟨b, hb⟩ := h
      rw [hb]
      exact one (by simp [isAgg, run_underlying hu]) _ hb
    all_goals exact row (by simp [isAgg, run_underlying hu])
/-- Fields, one by one. -/
theorem eqFields_fit (w : World) {d m : Nat} (IH : ∀ (t : TypeId) (xs ys : List Value), Fit P d t xs → Fit P d t ys → ∃ r : Bool, (Op.equalIn m t (ofCells P t xs) (ofCells P t ys)).run P w = .ok r w ∧ (r = true ↔ xs = ys)) (xs ys : List Value) :
    ∀ fs : List Field, (∀ f ∈ fs, f.name ≠ "_") → (∀ f ∈ fs, Fit P d f.type (chunk xs f.offset (P.cellsOf f.type))) → (∀ f ∈ fs, Fit P d f.type (chunk ys f.offset (P.cellsOf f.type))) →
    ∃ r : Bool, (Op.eqFields m xs.toArray ys.toArray fs).run P w = .ok r w ∧ (r = true ↔ ∀ f ∈ fs, chunk xs f.offset (P.cellsOf f.type) = chunk ys f.offset (P.cellsOf f.type))
  | [], _, _, _ => ⟨true, by simp [Op.eqFields], by simp⟩
  | f :: fs, hn, hx, hy => by
    obtain ⟨r, hr, hi⟩ := IH f.type _ _ (hx f (by simp)) (hy f (by simp))
    obtain ⟨r', hr', hi'⟩ := eqFields_fit w IH xs ys fs (fun g hg => hn g (by simp [hg])) (fun g hg => hx g (by simp [hg])) (fun g hg => hy g (by simp [hg]))
    have hn0 := hn f (by simp)
    simp only [Op.eqFields, hn0, ne_eq, not_false_eq_true, if_true, Sem.run_bind, run_part_fit w (hx f (by simp)), run_part_fit w (hy f (by simp)), Result.andThen_ok, hr]
    cases r with
    | false =>
      refine ⟨false, by simp, ?_⟩
      constructor
      · intro h; cases h
      · intro h; exact hi.2 (h f (by simp))
    | true =>
      refine ⟨r', by simpa using hr', ?_⟩
      rw [hi']
      simp only [List.mem_cons, forall_eq_or_imp, hi.1 rfl, true_and]
/-- Elements, one by one. -/
theorem eqItems_fit (w : World) {d m : Nat} {e : TypeId} (IH : ∀ (xs ys : List Value), Fit P d e xs → Fit P d e ys → ∃ r : Bool, (Op.equalIn m e (ofCells P e xs) (ofCells P e ys)).run P w = .ok r w ∧ (r = true ↔ xs = ys)) (xs ys : List Value) :
    ∀ is : List Nat, (∀ i ∈ is, Fit P d e (chunk xs (i * P.cellsOf e) (P.cellsOf e))) → (∀ i ∈ is, Fit P d e (chunk ys (i * P.cellsOf e) (P.cellsOf e))) →
    ∃ r : Bool, (Op.eqItems m e (P.cellsOf e) xs.toArray ys.toArray is).run P w = .ok r w ∧ (r = true ↔ ∀ i ∈ is, chunk xs (i * P.cellsOf e) (P.cellsOf e) = chunk ys (i * P.cellsOf e) (P.cellsOf e))
  | [], _, _ => ⟨true, by simp [Op.eqItems], by simp⟩
  | i :: is, hx, hy => by
    obtain ⟨r, hr, hi⟩ := IH _ _ (hx i (by simp)) (hy i (by simp))
    obtain ⟨r', hr', hi'⟩ := eqItems_fit w IH xs ys is (fun g hg => hx g (by simp [hg])) (fun g hg => hy g (by simp [hg]))
    simp only [Op.eqItems, Sem.run_bind, run_part_fit w (hx i (by simp)), run_part_fit w (hy i (by simp)), Result.andThen_ok, hr]
    cases r with
    | false =>
      refine ⟨false, by simp, ?_⟩
      constructor
      · intro h; cases h
      · intro h; exact hi.2 (h i (by simp))
    | true =>
      refine ⟨r', by simpa using hr', ?_⟩
      rw [hi']
      simp only [List.mem_cons, forall_eq_or_imp, hi.1 rfl, true_and]
/-- Two values are the same just if their cells are. -/
theorem equalIn_fit (w : World) (m : Nat) : ∀ (d : Nat) (t : TypeId) (xs ys : List Value), Fit P d t xs → Fit P d t ys → ∃ r : Bool, (Op.equalIn (m + d) t (ofCells P t xs) (ofCells P t ys)).run P w = .ok r w ∧ (r = true ↔ xs = ys)
  | 0, t, xs, ys, hx, _ => absurd hx (by simp [Fit])
  | d + 1, t, xs, ys, hx, hy => by
    have IH := equalIn_fit w m d
    obtain ⟨k, hu⟩ := fit_und hx
    unfold Fit at hx hy
    unfold ofCells
    rw [hu] at hx hy ⊢
    rw [← Nat.add_assoc]
    cases k <;> first | (exact hx.elim) | skip
    · obtain ⟨a, rfl⟩ := hx
      obtain ⟨b, rfl⟩ := hy
      exact ⟨a == b, run_equalIn_bool w (m + d) t a b hu, by cases a <;> cases b <;> simp⟩
    · obtain ⟨a, rfl⟩ := hx
      obtain ⟨b, rfl⟩ := hy
      exact ⟨a == b, run_equalIn_int w (m + d) t _ _ a b hu, by simp⟩
    · obtain ⟨a, rfl⟩ := hx
      obtain ⟨b, rfl⟩ := hy
      refine ⟨a.toList == b.toList, run_equalIn_string w (m + d) t a b hu, ?_⟩
      rw [beq_iff_eq, ByteArray.toList_eq, ByteArray.toList_eq]
      simp only [List.cons.injEq, Value.string.injEq, and_true]
      exact ⟨fun e => ByteArray.ext (Array.ext' e), fun e => by rw [e]⟩
    · rename_i a b
      first
        | (obtain ⟨hi, lx, hx⟩ := hx
           obtain ⟨_, ly, hy⟩ := hy
           obtain ⟨i, hi⟩ := Option.isSome_iff_exists.1 hi
           obtain ⟨r, hr, he⟩ := eqItems_fit w (fun xs ys => IH _ xs ys) xs ys (List.range _) (fun i h => hx i (List.mem_range.1 h)) (fun i h => hy i (List.mem_range.1 h))
           refine ⟨r, by rw [run_equalIn_array w (m + d) _ _ hu hi]; exact hr, ?_⟩
           rw [he]
           exact ⟨fun h => items_eq _ lx ly (fun i hi => h i (List.mem_range.2 hi)), fun h i _ => by rw [h]⟩)
    · rename_i fs
      obtain ⟨hp, lx, hx⟩ := hx
      obtain ⟨_, ly, hy⟩ := hy
      have hf : P.fieldsOf t = fs := by unfold Program.fieldsOf; rw [hu]
      obtain ⟨r, hr, he⟩ := eqFields_fit w IH xs ys fs.toList (tile_name _ _ lx) hx hy
      refine ⟨r, by rw [run_equalIn_struct w (m + d) t _ _ (by rw [hf]; exact hu) hp, hf]; exact hr, ?_⟩
      rw [he]
      constructor
      · intro h
        have hlen : xs.length = ys.length := by
          have tl : ∀ (fs : List Field) (o n k : Nat), tileB P fs o n = true → tileB P fs o k = true → n = k := by
            intro fs
            induction fs with
            | nil => intro o n k h1 h2; simp [tileB] at h1 h2; omega
            | cons f fs ih =>
              intro o n k h1 h2
              simp only [tileB, Bool.and_eq_true] at h1 h2
              exact ih _ n k h1.2 h2.2
          exact tl _ _ _ _ lx ly
        have := tile_eq hlen fs.toList 0 lx h
        simpa using this
      · intro h f _; rw [h]
end
section
variable {P : Program} {o : Oper} {a : Act}
theorem equal_fit {t : TypeId} {d : Nat} {xs ys : List Value} (hd : d ≤ 10000) (fx : Fit P d t xs) (fy : Fit P d t ys) (hrow : ofCells P t xs = .agg xs.toArray) (hrow' : ofCells P t ys = .agg ys.toArray) (b : Bool) (hb : b = true ↔ xs = ys) (w : World) :
    (Op.equalIn 10000 t (.agg xs.toArray) (.agg ys.toArray)).run P w = .ok b w := by
  obtain ⟨r, hr, he⟩ := equalIn_fit w (10000 - d) d t xs ys fx fy
  rw [hrow, hrow', Nat.sub_add_cancel hd] at hr
  rw [hr]
  congr 1
  rw [Bool.eq_iff_iff, he, hb]
/-- What is a row by its type. -/
theorem row_cells {t : TypeId} {k : TypeDesc} (hu : P.underlying t = some k) (hk : k.isRow = true) (cs : List Value) : ofCells P t cs = .agg cs.toArray := by
  unfold ofCells
  rw [hu]
  cases k <;> first | rfl | (cases hk)
/-- 'x == y', run. -/
theorem run_op_eqlF (t : TypeId) (x y : Operand) (t' : TypeId) (ho : o.op = .binOp .eql t x y t') (d : Nat) (hd : d ≤ 10000) (k : TypeDesc) (hu : P.underlying t = some k) (hk : k.isRow = true) (hg : P.eqGuardType P.depth t = false)
    (xs ys : List Value) (hx : a.eval x = .agg xs.toArray) (hy : a.eval y = .agg ys.toArray) (fx : Fit P d t xs) (fy : Fit P d t ys) (b : Bool) (hb : b = true ↔ xs = ys) (w : World) : (execOp a.eval o).run P w = .ok (.value (.bool b)) w := by
  unfold execOp
  simp only [ho, hx, hy, Sem.run_bind, run_eqGuard_agg w _ _ _ _ _ _ hg, Result.andThen_ok, binOp, Op.equal, Op.maxDepth, equal_fit hd fx fy (row_cells hu hk xs) (row_cells hu hk ys) b hb w, Sem.run_pure]
/-- 'x != y', run. -/
theorem run_op_neqF (t : TypeId) (x y : Operand) (t' : TypeId) (ho : o.op = .binOp .neq t x y t') (d : Nat) (hd : d ≤ 10000) (k : TypeDesc) (hu : P.underlying t = some k) (hk : k.isRow = true) (hg : P.eqGuardType P.depth t = false)
    (xs ys : List Value) (hx : a.eval x = .agg xs.toArray) (hy : a.eval y = .agg ys.toArray) (fx : Fit P d t xs) (fy : Fit P d t ys) (b : Bool) (hb : b = true ↔ xs = ys) (w : World) : (execOp a.eval o).run P w = .ok (.value (.bool (!b))) w := by
  unfold execOp
  simp only [ho, hx, hy, Sem.run_bind, run_eqGuard_agg w _ _ _ _ _ _ hg, Result.andThen_ok, binOp, Op.equal, Op.maxDepth, equal_fit hd fx fy (row_cells hu hk xs) (row_cells hu hk ys) b hb w, Sem.run_pure]
end
section
variable {P : Program} {d : Nat} {t : TypeId} {cs : List Value}
theorem fit_int {k : IntKind} (hu : P.underlying t = some (.int k)) (n : Int) : Fit P (d + 1) t [.int k n] := by unfold Fit; rw [hu]; exact ⟨n, rfl⟩
/-- An array of integers. -/
theorem fit_ints {n : Nat} {e : TypeId} {k : IntKind} (hu : P.underlying t = some (.array n e)) (he : P.underlying e = some (.int k)) (hc : P.cellsOf e = 1) (hl : cs.length = n) (h : ∀ v ∈ cs, ∃ m, v = .int k m) : Fit P (d + 2) t cs := by
  obtain ⟨i, hi⟩ := info_of_underlying he
  unfold Fit
  rw [hu]
  refine ⟨by rw [hi]; rfl, by rw [hc, hl, Nat.mul_one], fun j hj => ?_⟩
  rw [hc, Nat.mul_one]
  have hj2 : j < cs.length := by omega
  obtain ⟨m, hm⟩ := h _ (List.getElem_mem hj2)
  have e : chunk cs j 1 = [.int k m] := by
    unfold chunk
    rw [List.drop_eq_getElem_cons hj2, List.take_succ_cons, List.take_zero, hm]
  rw [e]
  exact fit_int he m
/-- A struct: its fields' types and places. -/
theorem fit_struct (l : List (TypeId × Nat)) (hu : P.underlying t = some (.struct (P.fieldsOf t))) (hp : P.stoodInHeld t = false) (hf : (P.fieldsOf t).toList.map (fun f => (f.type, f.offset)) = l) {n : Nat} (ht : tileB P (P.fieldsOf t).toList 0 n = true) (hn : cs.length = n)
    (h : ∀ p ∈ l, Fit P d p.1 (chunk cs p.2 (P.cellsOf p.1))) : Fit P (d + 1) t cs := by
  unfold Fit
  rw [hu]
  refine ⟨hp, by rw [hn]; exact ht, fun f hm => ?_⟩
  exact h (f.type, f.offset) (by rw [← hf]; exact List.mem_map.2 ⟨f, hm, rfl⟩)
end
/-- A part of a row is written. -/
theorem lay_head (a b v : List Value) (h : v.length = a.length) : lay (a ++ b) 0 v = v ++ b := by
  unfold lay
  rw [List.take_zero, List.nil_append, Nat.zero_add, h, List.drop_left]
theorem lay_skip (a b v : List Value) {m : Nat} (o : Nat) (h : a.length = m) : lay (a ++ b) (m + o) v = a ++ lay b o v := by
  unfold lay
  subst h
  rw [List.take_length_add_append, Nat.add_assoc, List.drop_length_add_append, List.append_assoc, List.append_assoc, List.append_assoc]
end Go.Proofs.YtnjmocobncncdaaGreatDoor.Mem

/-
  An argument of integers, arrays and structs of such, opened: what cells it has. Over whatever program.
-/
namespace Go.Proofs.YtnjmocobncncdaaGreatDoor.Mem
open Go.ChangeShapes Go.WideShapes Go.ChangeAt Go.RowKit
set_option linter.unusedVariables false

/-- A type of integers, and arrays and structs of such. -/
def intsB (P : Program) : Nat → TypeId → Bool
  | 0, _ => false
  | d + 1, t => match P.underlying t with
    | some (.int _) => true
    | some (.array _ e) => intsB P d e
    | some (.struct fs) => fs.all fun f => intsB P d f.type
    | _ => false
/-- What cells such an argument has. -/
def Came (P : Program) : Nat → TypeId → List Value → Prop
  | 0, _, _ => False
  | d + 1, t, cs => match P.underlying t with
    | some (.int k) => ∃ n, cs = [.int k n] ∧ (Lit.int k n).wf = true
    | some (.array n e) => cs.length = P.cellsOf t ∧ ∀ i, i < n → Came P d e (chunk cs (i * P.cellsOf e) (P.cellsOf e))
    | some (.struct fs) => cs.length = P.cellsOf t ∧ ∀ f ∈ fs.toList, Came P d f.type (chunk cs f.offset (P.cellsOf f.type))
    | _ => False
section
variable {H : Type} {enc : TypeId × Value → H} {P : Program} {w : World} {base : Nat} {spare : Nat → Bool} {held : Bool}
theorem came_trod : ∀ (d : Nat) (t : TypeId) (cs : List Value) (fuel : Nat) (x : DataW H × List MemPlace), intsB P d t = true → DataW.trod enc P w base spare held fuel t cs = some x → Came P d t cs
  | 0, _, _, _, _, h, _ => by simp [intsB] at h
  | d + 1, t, cs, fuel, x, hk, h => by
    unfold intsB at hk
    unfold Came
    cases hu : P.underlying t with
    | none => rw [hu] at hk; cases hk
    | some k =>
      rw [hu] at hk
      cases k <;> first | (cases hk; done) | skip
      · obtain ⟨n, e0, _, hw⟩ := DataW.trod_int hu h
        exact ⟨n, e0, hw⟩
      · obtain ⟨xs, m, rfl, hx, hlen, hn, hel⟩ := DataW.trod_array hu h
        rename_i n e
        refine ⟨hlen, fun i hi => ?_⟩
        have h1 := hel i hi
        rw [List.getElem?_eq_getElem (by omega)] at h1
        exact came_trod d e _ _ _ hk h1
      · obtain ⟨xs, m, rfl, hx, hlen, hn, hel⟩ := DataW.trod_struct hu h
        rename_i fs
        refine ⟨hlen, fun f hf => ?_⟩
        obtain ⟨i, hi, he⟩ := List.getElem_of_mem hf
        have hi2 : i < fs.size := by simpa using hi
        have hg : fs[i]? = some f := by rw [Array.getElem?_eq_getElem hi2]; congr 1
        have h1 := hel i f hg
        rw [List.getElem?_eq_getElem (by omega)] at h1
        have hkf : intsB P d f.type = true := by
          rw [Array.all_eq_true] at hk
          have := hk i hi2
          rw [Array.getElem?_eq_getElem hi2] at hg
          rw [Option.some.inj hg] at this
          exact this
        exact came_trod d f.type _ _ _ hkf h1
theorem came_int {d : Nat} {t : TypeId} {cs : List Value} {k : IntKind} (hu : P.underlying t = some (.int k)) (h : Came P (d + 1) t cs) : ∃ n, cs = [.int k n] ∧ (Lit.int k n).wf = true := by
  unfold Came at h
  rw [hu] at h
  exact h
/-- An array of integers. -/
theorem came_ints {d n : Nat} {t e : TypeId} {cs : List Value} {k : IntKind} (hu : P.underlying t = some (.array n e)) (he : P.underlying e = some (.int k)) (hc : P.cellsOf e = 1) (hn : P.cellsOf t = n) (h : Came P (d + 2) t cs) :
    ∃ ns : List Int, cs = ns.map (Value.int k) ∧ ns.length = n ∧ ∀ x ∈ ns, (Lit.int k x).wf = true := by
  unfold Came at h
  rw [hu] at h
  obtain ⟨hl, h⟩ := h
  rw [hn] at hl
  have key : ∀ i, i < n → ∃ x, cs[i]? = some (.int k x) ∧ (Lit.int k x).wf = true := fun i hi => by
    have h1 := h i hi
    rw [hc, Nat.mul_one] at h1
    obtain ⟨x, hx, hw⟩ := came_int he h1
    refine ⟨x, ?_, hw⟩
    have := congrArg (fun l => l[0]?) hx
    unfold chunk at this
    simpa [List.getElem?_take, List.getElem?_drop] using this
  refine ⟨cs.map (fun v => match v with | .int _ x => x | _ => 0), ?_, by rw [List.length_map, hl], ?_⟩
  · rw [List.map_map]
    apply List.ext_getElem?
    intro i
    by_cases hi : i < n
    · obtain ⟨x, hx, _⟩ := key i hi
      rw [List.getElem?_map, hx]
      rfl
    · rw [List.getElem?_eq_none (by omega), List.getElem?_eq_none (by rw [List.length_map]; omega)]
  · intro y hy
    obtain ⟨v, hv, rfl⟩ := List.mem_map.1 hy
    obtain ⟨i, hi, rfl⟩ := List.getElem_of_mem hv
    obtain ⟨x, hx, hw⟩ := key i (by omega)
    rw [List.getElem?_eq_getElem hi] at hx
    rw [Option.some.inj hx]
    exact hw
/-- A struct: its fields' types and places. -/
theorem came_struct {d n : Nat} {t : TypeId} {cs : List Value} (l : List (TypeId × Nat)) (hu : P.underlying t = some (.struct (P.fieldsOf t))) (hf : (P.fieldsOf t).toList.map (fun f => (f.type, f.offset)) = l) (hn : P.cellsOf t = n) (h : Came P (d + 1) t cs) :
    cs.length = n ∧ ∀ p ∈ l, Came P d p.1 (chunk cs p.2 (P.cellsOf p.1)) := by
  unfold Came at h
  rw [hu] at h
  refine ⟨h.1.trans hn, fun p hp => ?_⟩
  rw [← hf] at hp
  obtain ⟨f, hm, rfl⟩ := List.mem_map.1 hp
  exact h.2 f hm
/-- Cells, part by part. -/
theorem chunk_split (cs : List Value) (o n m : Nat) (h : o + n ≤ m) : chunk cs o (m - o) = chunk cs o n ++ chunk cs (o + n) (m - (o + n)) := by
  unfold chunk
  rw [show m - o = n + (m - (o + n)) by omega, List.take_add, List.drop_drop]
end
end Go.Proofs.YtnjmocobncncdaaGreatDoor.Mem
