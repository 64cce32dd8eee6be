/-
  Package tree's tree and the document's, as cells and maps: what stands where, what a write leaves; paths; '==' of paths. Over this seat's translation.
-/
import Derived.Test.YtpebadhknpohkaaDoorTreAwk
import Derived.Test.YtpebadhknpohkaaDoorIntMap
import Derived.Test.YtpebadhknpohkaaDoorAccAll
import Derived.Test.YtpebadhknpohkaaDoorEpoAll
import Derived.Test.YtpebadhknpohkaaDoorMemAll
namespace Go.Proofs.YtpebadhknpohkaaDoor.Tr
open Go.ChangeShapes Go.WideShapes Go.ChangeAt Go.RowKit Go.Proofs.YtpebadhknpohkaaDoor.Mem Go.Proofs.YtpebadhknpohkaaDoor.Bt Go.Proofs.YtpebadhknpohkaaDoor.Ac Go.Proofs.YtpebadhknpohkaaDoor.Im
open Go.Proofs.YtpebadhknpohkaaDoor.Ep (H32 zh zh_ok Has h_len szH zH fitH allH u8s_int)
set_option linter.unusedVariables false
set_option linter.unusedSimpArgs false

/-! ### Digests beside one another -/
def dgC (L : List (List Nat)) : List Value := L.flatMap u8s
theorem dgC_cons (x : List Nat) (L : List (List Nat)) : dgC (x :: L) = u8s x ++ dgC L := List.flatMap_cons
theorem dgC_len : ∀ (L : List (List Nat)), (∀ x ∈ L, H32 x) → (dgC L).length = L.length * 32
  | [], _ => rfl
  | x :: L, h => by
    rw [dgC_cons, List.length_append, h_len (h x (by simp)), dgC_len L (fun y hy => h y (by simp [hy])), List.length_cons]
    omega
theorem dgC_ones : ∀ L : List (List Nat), OneCells (dgC L)
  | [] => fun v hv => by cases hv
  | x :: L => by rw [dgC_cons]; exact Ep.one_app (u8s_one _) (dgC_ones L)
theorem dg_has : ∀ (L : List (List Nat)) (pre : List Value) (i : Nat) (d : List Nat), (∀ x ∈ L, H32 x) → L[i]? = some d → Has (pre ++ dgC L) (pre.length + 32 * i) (u8s d)
  | [], pre, i, d, _, hi => by simp at hi
  | x :: L, pre, 0, d, h, hi => by
    simp only [List.getElem?_cons_zero, Option.some.injEq] at hi
    subst hi
    have := (Has.refl (pre ++ dgC (x :: L))).right pre.length rfl
    rw [dgC_cons, Nat.zero_add] at this
    rw [dgC_cons]
    exact this.left
  | x :: L, pre, i + 1, d, h, hi => by
    have := dg_has L (pre ++ u8s x) i d (fun y hy => h y (by simp [hy])) (by simpa using hi)
    rw [List.append_assoc, List.length_append, h_len (h x (by simp))] at this
    rw [dgC_cons, show pre.length + 32 * (i + 1) = pre.length + 32 + 32 * i by omega]
    exact this
theorem dg_lay : ∀ (L : List (List Nat)) (pre : List Value) (i : Nat) (d : List Nat), (∀ x ∈ L, H32 x) → H32 d → i < L.length → lay (pre ++ dgC L) (pre.length + 32 * i) (u8s d) = pre ++ dgC (L.set i d)
  | [], pre, i, d, _, _, hi => by simp at hi
  | x :: L, pre, 0, d, h, hd, _ => by
    rw [dgC_cons, List.set_cons_zero, dgC_cons, lay_skip _ _ _ (32 * 0) rfl, lay_head _ _ _ (by rw [h_len hd, h_len (h x (by simp))])]
  | x :: L, pre, i + 1, d, h, hd, hi => by
    have := dg_lay L (pre ++ u8s x) i d (fun y hy => h y (by simp [hy])) hd (by simpa using hi)
    rw [List.append_assoc, List.length_append, h_len (h x (by simp))] at this
    rw [dgC_cons, List.set_cons_succ, dgC_cons, show pre.length + 32 * (i + 1) = pre.length + 32 + 32 * i by omega, this, List.append_assoc]
theorem dgC_inj : ∀ (L M : List (List Nat)), (∀ x ∈ L, H32 x) → (∀ x ∈ M, H32 x) → L.length = M.length → dgC L = dgC M → L = M
  | [], [], _, _, _, _ => rfl
  | [], y :: M, _, _, h, _ => by simp at h
  | x :: L, [], _, _, h, _ => by simp at h
  | x :: L, y :: M, hl, hm, h, e => by
    rw [dgC_cons, dgC_cons] at e
    obtain ⟨e1, e2⟩ := List.append_inj e (by rw [h_len (hl x (by simp)), h_len (hm y (by simp))])
    rw [u8s_same e1, dgC_inj L M (fun z hz => hl z (by simp [hz])) (fun z hz => hm z (by simp [hz])) (by simpa using h) e2]
where
  u8s_same {a b : List Nat} (h : u8s a = u8s b) : a = b := by
    unfold u8s at h
    refine List.map_inj_right (fun x y e => ?_) |>.1 h
    simp only [Value.int.injEq, true_and] at e
    omega
theorem all_set {L : List (List Nat)} (h : ∀ x ∈ L, H32 x) {d : List Nat} (hd : H32 d) (i : Nat) : ∀ x ∈ L.set i d, H32 x := fun x hx => by
  rcases List.mem_or_eq_of_mem_set hx with g | rfl
  · exact h x g
  · exact hd
/-! ### The project's tree -/
def z5 : List (List Nat) := [zh, zh, zh, zh, zh]
def b5 : List (List Nat) := [bareD 0, bareD 1, bareD 2, bareD 3, bareD 4]
theorem z5_ok : ∀ x ∈ z5, H32 x := by
  intro x hx
  simp only [z5, List.mem_cons, List.not_mem_nil, or_false, or_self] at hx
  exact hx ▸ zh_ok
theorem b5_ok : ∀ x ∈ b5, H32 x := by
  intro x hx
  simp only [b5, List.mem_cons, List.not_mem_nil, or_false] at hx
  rcases hx with rfl | rfl | rfl | rfl | rfl <;> exact bareD_ok _
theorem b5_get {h : Nat} (k : h ≤ 4) : b5[h]? = some (bareD h) := by
  obtain rfl | rfl | rfl | rfl | rfl : h = 0 ∨ h = 1 ∨ h = 2 ∨ h = 3 ∨ h = 4 := by omega
  all_goals rfl
def tcs (mb : Nat) (L : List (List Nat)) : List Value := [.map (some mb)] ++ dgC L
def VA (a : Acct) : Value := .agg (acs a).toArray
/-- Every place's account may be; there are 16 places. -/
def Good (t : Tree) : Prop := ∀ k a, t k = some a → k < 16 ∧ a.Ok ∧ NRt a.nm
theorem good_bare : Good bare := fun k a h => by cases h
structure TrAt (w : World) (B mb : Nat) (t : Tree) : Prop where
  row : Row w B 67 (tcs mb b5)
  map : IMap w mb VA t
section
variable {w w' : World} {B mb : Nat} {t : Tree}
theorem TrAt.ne (h : TrAt w B mb t) : mb ≠ B := h.map.row h.row
theorem TrAt.lt (h : TrAt w B mb t) : B < w.heap.size := h.row.lt
theorem TrAt.mlt (h : TrAt w B mb t) : mb < w.heap.size := h.map.lt
theorem TrAt.old (h : TrAt w B mb t) (hb : Below w.heap.size w w') : TrAt w' B mb t := ⟨h.row.old hb, h.map.old hb⟩
theorem TrAt.only {c : Nat} (h : TrAt w B mb t) (ho : Only c w w') (h1 : B ≠ c) (h2 : mb ≠ c) : TrAt w' B mb t := ⟨h.row.only ho h1, h.map.only ho h2⟩
theorem TrAt.congr {u : Tree} (h : TrAt w B mb t) (e : t = u) : TrAt w B mb u := e ▸ h
theorem TrAt.bdig (h : TrAt w B mb t) {i : Nat} (k : i ≤ 4) : w.rangeAt B (1 + 32 * i) (u8s (bareD i)) :=
  (show Has (tcs mb b5) (1 + 32 * i) (u8s (bareD i)) from dg_has b5 [.map (some mb)] i (bareD i) b5_ok (b5_get k)).range h.row
theorem TrAt.c0 (h : TrAt w B mb t) : w.cell? ⟨B, 0, none⟩ = some (.map (some mb)) := h.row.cell rfl
end
theorem und_map : Tryd.prog.underlying 64 = some (.map 3 36) := by kernel_rfl
theorem und_int : Tryd.prog.underlying 3 = some (.int .i64) := by kernel_rfl
theorem zero_acc (w : World) : (zeroValue 36).run Tryd.prog w = .ok (VA za) w := by kernel_rfl
theorem val_acc (o : Option Acct) : valO (VA za) VA o = .agg (acs (o.getD za)).toArray := by cases o <;> rfl
/-- What Set and Drop leave. -/
def SetOk (p : Int) (a : Acct) : Prop := (0 ≤ p ∧ p < 16) ∧ NRt a.nm
instance (p : Int) (a : Acct) : Decidable (SetOk p a) := inferInstanceAs (Decidable (_ ∧ _))
def setR (t : Tree) (p : Int) (a : Acct) : Tree := if SetOk p a then setT t p.toNat (some a) else t
def setE (p : Int) (a : Acct) : Nat := if SetOk p a then 0 else 1
def dropR (t : Tree) (p : Int) : Tree := delI t p
theorem good_set {t : Tree} (h : Good t) (p : Int) {a : Acct} (k : a.Ok) : Good (setR t p a) := by
  unfold setR
  split
  · rename_i hs
    intro i b hb
    unfold setT at hb
    split at hb
    · rename_i e
      cases hb
      exact ⟨by have := hs.1; omega, k, hs.2⟩
    · exact h i b hb
  · exact h
theorem good_drop {t : Tree} (h : Good t) (p : Int) : Good (dropR t p) := by
  intro i b hb
  unfold dropR delI at hb
  split at hb
  · cases hb
  · exact h i b hb
theorem drop_none {t : Tree} {p : Int} (h : atI t p = none) : dropR t p = t := by
  funext i
  unfold dropR delI
  split
  · rename_i e
    rw [← e, atI_nat] at h
    exact h.symm
  · rfl
theorem good_at {t : Tree} (h : Good t) {p : Int} {a : Acct} (e : atI t p = some a) : 0 ≤ p ∧ p < 16 ∧ a.Ok ∧ NRt a.nm := by
  obtain ⟨k, rfl, hk⟩ := atI_some e
  have := h k a hk
  exact ⟨by omega, by omega, this.2⟩
theorem good_getD {t : Tree} (h : Good t) (p : Int) : ((atI t p).getD za).Ok := by
  cases e : atI t p with
  | none => exact za_ok
  | some a => exact (good_at h e).2.2.1
/-! ### Paths -/
def z4 : List (List Nat) := [zh, zh, zh, zh]
theorem z4_ok : ∀ x ∈ z4, H32 x := fun x hx => z5_ok x (by simp only [z4, z5, List.mem_cons, List.not_mem_nil, or_false, or_self] at hx ⊢; exact hx)
theorem path_ok (t : Tree) (p : Nat) : ∀ x ∈ pathD t p, H32 x := by
  intro x hx
  simp only [pathD, List.mem_cons, List.not_mem_nil, or_false] at hx
  rcases hx with rfl | rfl | rfl | rfl <;> exact bes_ok _ _ _
def pathI (t : Tree) (p : Int) : List (List Nat) := if 0 ≤ p ∧ p < 16 then pathD t p.toNat else z4
def pathE (p : Int) : Nat := if 0 ≤ p ∧ p < 16 then 0 else 1
theorem pathI_ok (t : Tree) (p : Int) : ∀ x ∈ pathI t p, H32 x := by
  unfold pathI
  split
  · exact path_ok _ _
  · exact z4_ok
theorem pathI_len (t : Tree) (p : Int) : (pathI t p).length = 4 := by
  unfold pathI
  split <;> rfl
theorem dg4 {L : List (List Nat)} (h : ∀ x ∈ L, H32 x) (hl : L.length = 4) : (dgC L).length = 128 := by rw [dgC_len L h, hl]
theorem z_path : Mem.Zero Tryd.prog 52 (dgC z4) := by unfold Mem.Zero; kernel_rfl
theorem z_rpath : Mem.Zero Tryd.prog 51 (dgC z4) := by unfold Mem.Zero; kernel_rfl
theorem built_path : Tryd.prog.built 52 [] = some (dgC z4).toArray := by kernel_rfl
theorem built_rpath : Tryd.prog.built 51 [] = some (dgC z4).toArray := by kernel_rfl
theorem sz_path {L : List (List Nat)} (h : ∀ x ∈ L, H32 x) (hl : L.length = 4) : Sized Tryd.prog 52 (dgC L).length := by rw [dg4 h hl]; exact ⟨.array 4 50, by kernel_rfl, rfl, by kernel_rfl⟩
theorem sz_rpath {L : List (List Nat)} (h : ∀ x ∈ L, H32 x) (hl : L.length = 4) : Sized Tryd.prog 51 (dgC L).length := by rw [dg4 h hl]; exact ⟨.array 4 50, by kernel_rfl, rfl, by kernel_rfl⟩
theorem fitP {L : List (List Nat)} (h : ∀ x ∈ L, H32 x) (hl : L.length = 4) : 0 + (dgC L).length ≤ (dgC z4).length := by rw [dg4 h hl, dg4 z4_ok rfl]; omega
theorem allP {L : List (List Nat)} (h : ∀ x ∈ L, H32 x) (hl : L.length = 4) : lay (dgC z4) 0 (dgC L) = dgC L := lay_all _ _ (by rw [dg4 h hl, dg4 z4_ok rfl])
set_option maxRecDepth 100000 in
theorem fit_dg4 {ty : TypeId} (hu : Tryd.prog.underlying ty = some (.array 4 50)) {L : List (List Nat)} (h : ∀ x ∈ L, H32 x) (hl : L.length = 4) : Fit Tryd.prog 3 ty (dgC L) := by
  have c1 : Tryd.prog.cellsOf 50 = 32 := by kernel_rfl
  refine fit_array hu (by kernel_rfl) (by rw [c1, dg4 h hl]) fun i hi => ?_
  obtain ⟨d, hd⟩ : ∃ d, L[i]? = some d := ⟨_, List.getElem?_eq_getElem (by omega)⟩
  have hh := dg_has L [] i d h hd
  have kd := h d (List.mem_of_getElem? hd)
  have := hh.chunk (h_len kd)
  simp only [List.nil_append, List.length_nil, Nat.zero_add] at this
  rw [c1, Nat.mul_comm, this]
  exact Ep.fit_hash 0 kd
section
variable {o : Oper} {a : Act}
set_option maxRecDepth 100000 in
/-- '==' and '!=' of two paths. -/
theorem run_op_eqlP {L M : List (List Nat)} (hL : ∀ x ∈ L, H32 x) (hM : ∀ x ∈ M, H32 x) (lL : L.length = 4) (lM : M.length = 4) (ty : TypeId) (hu : Tryd.prog.underlying ty = some (.array 4 50)) (hg : Tryd.prog.eqGuardType Tryd.prog.depth ty = false) (p q : Operand) (t' : TypeId) (ho : o.op = .binOp .eql ty p q t') (hy : a.eval p = .agg (dgC L).toArray) (hz : a.eval q = .agg (dgC M).toArray) (b : Bool) (hb : b = true ↔ L = M) (w : World) : (execOp a.eval o).run Tryd.prog w = .ok (.value (.bool b)) w :=
  run_op_eqlF ty p q t' ho 3 (by omega) (.array 4 50) hu rfl hg (dgC L) (dgC M) hy hz (fit_dg4 hu hL lL) (fit_dg4 hu hM lM) b (hb.trans ⟨congrArg dgC, dgC_inj L M hL hM (by rw [lL, lM])⟩) w
set_option maxRecDepth 100000 in
theorem run_op_neqP {L M : List (List Nat)} (hL : ∀ x ∈ L, H32 x) (hM : ∀ x ∈ M, H32 x) (lL : L.length = 4) (lM : M.length = 4) (ty : TypeId) (hu : Tryd.prog.underlying ty = some (.array 4 50)) (hg : Tryd.prog.eqGuardType Tryd.prog.depth ty = false) (p q : Operand) (t' : TypeId) (ho : o.op = .binOp .neq ty p q t') (hy : a.eval p = .agg (dgC L).toArray) (hz : a.eval q = .agg (dgC M).toArray) (b : Bool) (hb : b = true ↔ L = M) (w : World) : (execOp a.eval o).run Tryd.prog w = .ok (.value (.bool (!b))) w :=
  run_op_neqF ty p q t' ho 3 (by omega) (.array 4 50) hu rfl hg (dgC L) (dgC M) hy hz (fit_dg4 hu hL lL) (fit_dg4 hu hM lM) b (hb.trans ⟨congrArg dgC, dgC_inj L M hL hM (by rw [lL, lM])⟩) w
end
theorem run_op_arr {P : Program} {o : Oper} {a : Act} (t : TypeId) (x ix : Operand) (ho : o.op = .indexAddr t x ix) (n : Nat) (e : TypeId) (s : Nat) (hu : P.underlying t = some (.array n e)) (hse : (P.info? e).map (·.size) = some s)
    (g off : Nat) (hx : a.eval x = .pointer (some ⟨g, off, none⟩)) (kk : IntKind) (i : Int) (hi : a.eval ix = .int kk i) (k : Nat) (hik : i = (k : Int)) (hk : k < n) (q : Nat) (hqq : off + k * s = q) (w : World) : (execOp a.eval o).run P w = .ok (.value (.pointer (some ⟨g, q, none⟩))) w := by
  subst hik hqq
  cases hq : P.info? e with
  | none => simp [hq] at hse
  | some ie =>
    have hs : ie.size = s := by simpa [hq] using hse
    have h3 : (⟨g, off, none⟩ : Addr).add (k * s) = ⟨g, off + k * s, none⟩ := Addr.add_mid g off (k * s)
    unfold execOp
    simp [ho, hx, hi, Instr.indexAt, asIntOf, run_underlying hu, sizeOf, typeInfo, hq, hs, hk, h3, Instr.sureAddr]
section
variable {o : Oper} {a : Act}
set_option maxRecDepth 100000 in
/-- '==' and '!=' of two digests. -/
theorem run_op_eqlD {x y : List Nat} (k : H32 x) (j : H32 y) (p q : Operand) (t' : TypeId) (ho : o.op = .binOp .eql 50 p q t') (hy : a.eval p = .agg (u8s x).toArray) (hz : a.eval q = .agg (u8s y).toArray) (b : Bool) (hb : b = true ↔ x = y) (w : World) : (execOp a.eval o).run Tryd.prog w = .ok (.value (.bool b)) w :=
  run_op_eqlF 50 p q t' ho 2 (by omega) (.array 32 5) (by kernel_rfl) rfl (by kernel_rfl) (u8s x) (u8s y) hy hz (Ep.fit_hash 0 k) (Ep.fit_hash 0 j) b (hb.trans ⟨congrArg u8s, dgC_inj.u8s_same [] []⟩) w
set_option maxRecDepth 100000 in
theorem run_op_neqD {x y : List Nat} (k : H32 x) (j : H32 y) (p q : Operand) (t' : TypeId) (ho : o.op = .binOp .neq 50 p q t') (hy : a.eval p = .agg (u8s x).toArray) (hz : a.eval q = .agg (u8s y).toArray) (b : Bool) (hb : b = true ↔ x = y) (w : World) : (execOp a.eval o).run Tryd.prog w = .ok (.value (.bool (!b))) w :=
  run_op_neqF 50 p q t' ho 2 (by omega) (.array 32 5) (by kernel_rfl) rfl (by kernel_rfl) (u8s x) (u8s y) hy hz (Ep.fit_hash 0 k) (Ep.fit_hash 0 j) b (hb.trans ⟨congrArg u8s, dgC_inj.u8s_same [] []⟩) w
set_option maxRecDepth 100000 in
theorem run_op_neqA (x y : Operand) (t' : TypeId) (ho : o.op = .binOp .neq 36 x y t') (c d : Acct) (hx : a.eval x = .agg (acs c).toArray) (hy : a.eval y = .agg (acs d).toArray) (b : Bool) (hb : b = true ↔ c = d) (w : World) : (execOp a.eval o).run Tryd.prog w = .ok (.value (.bool (!b))) w :=
  run_op_neqF _ x y t' ho 2 (by omega) (.struct (Tryd.prog.fieldsOf 36)) (by kernel_rfl) rfl (by kernel_rfl) (acs c) (acs d) hx hy (fit_acc 0 c) (fit_acc 0 d) b (hb.trans acs_iff.symm) w
/-- '==' and '!=' of two truths. -/
theorem run_eqlB (p q : Bool) (w : World) : (binOp .eql 4 (.bool p) (.bool q)).run Tryd.prog w = .ok (.bool (p == q)) w := by cases p <;> cases q <;> kernel_rfl
theorem run_neqB (p q : Bool) (w : World) : (binOp .neq 4 (.bool p) (.bool q)).run Tryd.prog w = .ok (.bool (!(p == q))) w := by cases p <;> cases q <;> kernel_rfl
theorem run_op_eqlBB (x y : Operand) (t' : TypeId) (ho : o.op = .binOp .eql 4 x y t') (p q : Bool) (hx : a.eval x = .bool p) (hy : a.eval y = .bool q) (r : Bool) (hr : (p == q) = r) (w : World) : (execOp a.eval o).run Tryd.prog w = .ok (.value (.bool r)) w := by
  subst hr
  unfold execOp
  simp [ho, hx, hy, eqGuard, run_eqlB]
theorem run_op_neqBB (x y : Operand) (t' : TypeId) (ho : o.op = .binOp .neq 4 x y t') (p q : Bool) (hx : a.eval x = .bool p) (hy : a.eval y = .bool q) (r : Bool) (hr : (!(p == q)) = r) (w : World) : (execOp a.eval o).run Tryd.prog w = .ok (.value (.bool r)) w := by
  subst hr
  unfold execOp
  simp [ho, hx, hy, eqGuard, run_neqB]
end
end Go.Proofs.YtpebadhknpohkaaDoor.Tr
