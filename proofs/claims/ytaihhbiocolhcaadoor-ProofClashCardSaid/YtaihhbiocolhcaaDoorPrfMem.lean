/-
  Package proof's nodes and claims (and the document's claims) as cells; a call of a function value; single operations on places and paths. Over this seat's translation.
-/
import Derived.Test.YtaihhbiocolhcaaDoorTreAll
import Derived.Test.YtaihhbiocolhcaaDoorPrfSpec
import Derived.Test.YtaihhbiocolhcaaDoorCmp
import Derived.Test.YtaihhbiocolhcaaDoorMemAll
import Derived.Test.YtaihhbiocolhcaaDoorTagAll
namespace Go.Proofs.YtaihhbiocolhcaaDoor.Pf
open Go.ChangeShapes Go.WideShapes Go.ChangeAt Go.RowKit Go.Proofs.YtaihhbiocolhcaaDoor.Mem Go.Proofs.YtaihhbiocolhcaaDoor.Bt Go.Proofs.YtaihhbiocolhcaaDoor.Sha Go.Proofs.YtaihhbiocolhcaaDoor.Ac Go.Proofs.YtaihhbiocolhcaaDoor.Tr
open Go.Proofs.YtaihhbiocolhcaaDoor.Ep (H32 zh zh_ok Has h_len szH zH fitH allH one_app)
set_option linter.unusedVariables false
set_option linter.unusedSimpArgs false

/-- A node's cells: its height, what is joined, what they make. -/
def ncs (h : Nat) (l r d : List Nat) : List Value := [.int .i64 (h : Int)] ++ (u8s l ++ (u8s r ++ u8s d))
theorem ncs_len {h : Nat} {l r d : List Nat} (kl : H32 l) (kr : H32 r) (kd : H32 d) : (ncs h l r d).length = 97 := by
  unfold ncs
  rw [List.length_append, List.length_append, List.length_append, h_len kl, h_len kr, h_len kd]
  rfl
theorem one_int (n : Int) : OneCells [.int .i64 n] := by intro v hv; rw [List.mem_singleton.1 hv]; rfl
theorem ncs_one (h : Nat) (l r d : List Nat) : OneCells (ncs h l r d) := one_app (one_int _) (one_app (u8s_one _) (one_app (u8s_one _) (u8s_one _)))
theorem n_h (h : Nat) (l r d : List Nat) : Has (ncs h l r d) 0 [.int .i64 (h : Int)] := (Has.refl _).left
theorem n_l (h : Nat) (l r d : List Nat) : Has (ncs h l r d) 1 (u8s l) := ((Has.refl (ncs h l r d)).right 1 rfl).left
theorem n_r {h : Nat} {l r d : List Nat} (kl : H32 l) : Has (ncs h l r d) 33 (u8s r) := (((Has.refl (ncs h l r d)).right 1 rfl).right 32 (h_len kl)).left
theorem n_d {h : Nat} {l r d : List Nat} (kl : H32 l) (kr : H32 r) : Has (ncs h l r d) 65 (u8s d) := ((((Has.refl (ncs h l r d)).right 1 rfl).right 32 (h_len kl)).right 32 (h_len kr))
theorem n_setl {h : Nat} {l r d x : List Nat} (kl : H32 l) (kx : H32 x) : lay (ncs h l r d) 1 (u8s x) = ncs h x r d := by
  unfold ncs
  rw [show (1 : Nat) = 1 + 0 from rfl, lay_skip _ _ _ _ (m := 1) rfl, lay_head _ _ _ (by rw [h_len kx, h_len kl])]
theorem n_setr {h : Nat} {l r d x : List Nat} (kl : H32 l) (kr : H32 r) (kx : H32 x) : lay (ncs h l r d) 33 (u8s x) = ncs h l x d := by
  unfold ncs
  rw [show (33 : Nat) = 1 + (32 + 0) from rfl, lay_skip _ _ _ _ (m := 1) rfl, lay_skip _ _ _ _ (h_len kl), lay_head _ _ _ (by rw [h_len kx, h_len kr])]
theorem n_setd {h : Nat} {l r d x : List Nat} (kl : H32 l) (kr : H32 r) (kd : H32 d) (kx : H32 x) : lay (ncs h l r d) 65 (u8s x) = ncs h l r x := by
  unfold ncs
  rw [show (65 : Nat) = 1 + (32 + (32 + 0)) from rfl, lay_skip _ _ _ _ (m := 1) rfl, lay_skip _ _ _ _ (h_len kl), lay_skip _ _ _ _ (h_len kr), lay_all _ _ (by rw [h_len kx, h_len kd])]
def zn : List Value := ncs 0 zh zh zh
theorem z_node : Mem.Zero Tryd.prog 74 zn := by unfold Mem.Zero; kernel_rfl
theorem sz_node {h : Nat} {l r d : List Nat} (kl : H32 l) (kr : H32 r) (kd : H32 d) : Sized Tryd.prog 74 (ncs h l r d).length := by rw [ncs_len kl kr kd]; exact ⟨.struct (Tryd.prog.fieldsOf 74), by kernel_rfl, rfl, by kernel_rfl⟩
theorem zn_len : zn.length = 97 := ncs_len zh_ok zh_ok zh_ok
theorem fitN {h : Nat} {l r d : List Nat} (kl : H32 l) (kr : H32 r) (kd : H32 d) : 0 + (ncs h l r d).length ≤ zn.length := by rw [ncs_len kl kr kd, zn_len]; omega
theorem allN {h : Nat} {l r d : List Nat} (kl : H32 l) (kr : H32 r) (kd : H32 d) : lay zn 0 (ncs h l r d) = ncs h l r d := lay_all _ _ (by rw [ncs_len kl kr kd, zn_len])
def nplaces : Nat → Option (Nat × Nat) := fun i => (#[(0, 1), (1, 32), (33, 32), (65, 32)] : Array (Nat × Nat))[i]?
theorem shape_node (parts : List (Nat × Value)) : Tryd.prog.built 74 parts = Instr.fill nplaces zn.toArray parts := by unfold nplaces; kernel_rfl
theorem np0 : nplaces 0 = some (0, 1) := by kernel_rfl
theorem np1 : nplaces 1 = some (1, 32) := by kernel_rfl
theorem np2 : nplaces 2 = some (33, 32) := by kernel_rfl
theorem built_node (h : Nat) {l r : List Nat} (kl : H32 l) (kr : H32 r) : Tryd.prog.built 74 [(0, .int .i64 (h : Int)), (1, .agg (u8s l).toArray), (2, .agg (u8s r).toArray)] = some (ncs h l r zh).toArray := by
  rw [shape_node, fill_step nplaces zn 0 0 1 _ [.int .i64 (h : Int)] _ np0 rfl rfl (by rw [zn_len]; omega)]
  rw [show lay zn 0 [.int .i64 (h : Int)] = ncs h zh zh zh by unfold zn ncs; rw [lay_head [.int .i64 ((0 : Nat) : Int)] _ [.int .i64 (h : Int)] rfl]]
  rw [fill_step nplaces _ 1 1 32 _ (u8s l) _ np1 rfl (h_len kl) (by rw [ncs_len zh_ok zh_ok zh_ok]; omega), n_setl zh_ok kl]
  rw [fill_step nplaces _ 2 33 32 _ (u8s r) _ np2 rfl (h_len kr) (by rw [ncs_len kl zh_ok zh_ok]; omega), n_setr kl zh_ok kr, fill_done]
/-! ### Claims -/
def clc (a : Acct) (L : List (List Nat)) : List Value := acs a ++ dgC L
/-- A claim's path: four digests. -/
structure P4 (L : List (List Nat)) : Prop where
  ok : ∀ x ∈ L, H32 x
  len : L.length = 4
theorem z4_p4 : P4 z4 := ⟨z4_ok, rfl⟩
theorem P4.get {L : List (List Nat)} (h : P4 L) {k : Nat} (hk : k < 4) : L[k]? = some (L.getD k []) := by
  have h2 := h.len
  rw [List.getD_eq_getElem?_getD, List.getElem?_eq_getElem (by omega)]
  rfl
theorem P4.at {L : List (List Nat)} (h : P4 L) {k : Nat} (hk : k < 4) : H32 (L.getD k []) := getD_ok h.ok (by have := h.len; omega)
theorem clc_len (a : Acct) {L : List (List Nat)} (h : P4 L) : (clc a L).length = 131 := by unfold clc; rw [List.length_append, acs_len, dg4 h.ok h.len]
theorem clc_one (a : Acct) (L : List (List Nat)) : OneCells (clc a L) := one_app (acs_one _) (dgC_ones _)
theorem c_a (a : Acct) (L : List (List Nat)) : Has (clc a L) 0 (acs a) := (Has.refl _).left
theorem c_nm (a : Acct) (L : List (List Nat)) : Has (clc a L) 0 [.string a.nm] := (c_a a L).head
theorem c_p (a : Acct) (L : List (List Nat)) : Has (clc a L) 3 (dgC L) := (Has.refl (clc a L)).right 3 rfl
theorem c_d (a : Acct) {L : List (List Nat)} (h : P4 L) {k : Nat} (hk : k < 4) : Has (clc a L) (3 + 32 * k) (u8s (L.getD k [])) := dg_has L (acs a) k _ h.ok (h.get hk)
theorem sz_claim (a : Acct) {L : List (List Nat)} (h : P4 L) : Sized Tryd.prog 60 (clc a L).length := by rw [clc_len a h]; exact ⟨.struct (Tryd.prog.fieldsOf 60), by kernel_rfl, rfl, by kernel_rfl⟩
theorem sz_rclaim (a : Acct) {L : List (List Nat)} (h : P4 L) : Sized Tryd.prog 65 (clc a L).length := by rw [clc_len a h]; exact ⟨.struct (Tryd.prog.fieldsOf 65), by kernel_rfl, rfl, by kernel_rfl⟩
def zc : List Value := clc za z4
def cplaces : Nat → Option (Nat × Nat) := fun i => (#[(0, 3), (3, 128)] : Array (Nat × Nat))[i]?
theorem shape_claim (parts : List (Nat × Value)) : Tryd.prog.built 60 parts = Instr.fill cplaces zc.toArray parts := by unfold cplaces; kernel_rfl
theorem shape_rclaim (parts : List (Nat × Value)) : Tryd.prog.built 65 parts = Instr.fill cplaces zc.toArray parts := by unfold cplaces; kernel_rfl
theorem cp0 : cplaces 0 = some (0, 3) := by kernel_rfl
theorem cp1 : cplaces 1 = some (3, 128) := by kernel_rfl
theorem lay_ca (a : Acct) : lay zc 0 (acs a) = clc a z4 := by unfold zc clc; rw [lay_head (acs za) _ (acs a) rfl]
theorem lay_cp (a : Acct) {L : List (List Nat)} (h : P4 L) : lay (clc a z4) 3 (dgC L) = clc a L := by unfold clc; rw [show (3 : Nat) = 3 + 0 from rfl, lay_skip _ _ _ _ (acs_len a), lay_all _ _ (by rw [dg4 h.ok h.len, dg4 z4_ok rfl])]
theorem built_claim (a : Acct) {L : List (List Nat)} (h : P4 L) : Tryd.prog.built 60 [(0, .agg (acs a).toArray), (1, .agg (dgC L).toArray)] = some (clc a L).toArray := by
  rw [shape_claim, fill_step cplaces zc 0 0 3 _ (acs a) _ cp0 rfl rfl (by unfold zc; rw [clc_len za z4_p4]; omega), lay_ca, fill_step cplaces _ 1 3 128 _ (dgC L) _ cp1 rfl (dg4 h.ok h.len) (by rw [clc_len a z4_p4]; omega), lay_cp a h, fill_done]
theorem built_claim1 (a : Acct) : Tryd.prog.built 60 [(0, .agg (acs a).toArray)] = some (clc a z4).toArray := by
  rw [shape_claim, fill_step cplaces zc 0 0 3 _ (acs a) _ cp0 rfl rfl (by unfold zc; rw [clc_len za z4_p4]; omega), lay_ca, fill_done]
theorem built_rclaim (a : Acct) {L : List (List Nat)} (h : P4 L) : Tryd.prog.built 65 [(0, .agg (acs a).toArray), (1, .agg (dgC L).toArray)] = some (clc a L).toArray := by
  rw [shape_rclaim, fill_step cplaces zc 0 0 3 _ (acs a) _ cp0 rfl rfl (by unfold zc; rw [clc_len za z4_p4]; omega), lay_ca, fill_step cplaces _ 1 3 128 _ (dgC L) _ cp1 rfl (dg4 h.ok h.len) (by rw [clc_len a z4_p4]; omega), lay_cp a h, fill_done]
/-! ### Two blocks change -/
structure Two (b c : Nat) (w w' : World) : Prop where
  os : w'.os = w.os
  tape : w'.tape = w.tape
  output : w'.output = w.output
  size : w.heap.size ≤ w'.heap.size
  block : ∀ k, k < w.heap.size → k ≠ b → k ≠ c → w'.heap[k]? = w.heap[k]?
theorem Two.of_below {w w' : World} (b c : Nat) (h : Below w.heap.size w w') : Two b c w w' := ⟨h.os, h.tape, h.output, h.size, fun k hk _ _ => h.block k hk⟩
theorem Two.of_left {w w' : World} {b : Nat} (c : Nat) (h : Only b w w') : Two b c w w' := ⟨h.os, h.tape, h.output, h.size, fun k hk h1 _ => h.block k hk h1⟩
theorem Two.of_right {w w' : World} (b : Nat) {c : Nat} (h : Only c w w') : Two b c w w' := ⟨h.os, h.tape, h.output, h.size, fun k hk _ h2 => h.block k hk h2⟩
theorem Two.trans {b c : Nat} {w w1 w2 : World} (h : Two b c w w1) (g : Two b c w1 w2) : Two b c w w2 :=
  ⟨g.os.trans h.os, g.tape.trans h.tape, g.output.trans h.output, Nat.le_trans h.size g.size, fun k hk h1 h2 => (g.block k (Nat.lt_of_lt_of_le hk h.size) h1 h2).trans (h.block k hk h1 h2)⟩
theorem Two.below {b c n : Nat} {w w' : World} (h : Two b c w w') (hb : n ≤ b) (hc : n ≤ c) (hs : n ≤ w.heap.size) : Below n w w' :=
  ⟨h.os, h.tape, h.output, h.size, fun k hk => h.block k (by omega) (by omega) (by omega)⟩
theorem _root_.Go.Proofs.YtaihhbiocolhcaaDoor.Mem.Row.two {w w' : World} {b c d : Nat} {t : TypeId} {cs : List Value} (h : Row w d t cs) (ho : Two b c w w') (h1 : d ≠ b) (h2 : d ≠ c) : Row w' d t cs := h.of_block (ho.block d h.lt h1 h2)
/-! ### Single operations -/
section
variable {P : Program} {o : Oper} {a : Act}
/-- A function value is called. -/
theorem run_op_callV (f : FuncId) (g : Operand) (xs : Array Operand) (ats : Array TypeId) (ho : o.op = .call { callee := .value g, args := xs, argTypes := ats }) (cap : Array Value) (hg : a.eval g = .func (.func f) #[] cap) (args : Array Value) (hx : xs.map a.eval = args) {fn : Func} (hf : P.funcs[f]? = some fn)
    (hb : fn.body.isNone = false) (hn : (fn.name == "runtime.NumGoroutine") = false) (w : World) : (execOp a.eval o).run P w = .ok (.enter f (args ++ cap)) w := by
  obtain ⟨dst, op, ty, pos, after, guard⟩ := o
  simp only at ho
  subst ho
  unfold execOp
  simp only [resolve, Deferred.ofValue, hg, hx, invoke, callFunc, Sem.run_bind, Sem.run_pure, run_program, Result.andThen_ok, hf, hn, hb, Bool.false_eq_true, if_false, Array.empty_append]
theorem and_one {q : Nat} (h : q < 16) : IntKind.i64.wrap ((BitVec.ofNat 64 q &&& 1#64).toNat : Int) = ((q % 2 : Nat) : Int) := by
  have : ∀ q : Fin 16, IntKind.i64.wrap ((BitVec.ofNat 64 q.1 &&& 1#64).toNat : Int) = ((q.1 % 2 : Nat) : Int) := by decide
  exact this ⟨q, h⟩
theorem run_op_andI (t t' : TypeId) (x y : Operand) (ho : o.op = .binOp .and t x y t') (q : Nat) (hx : a.eval x = .int .i64 (q : Int)) (hy : a.eval y = .int .i64 1) (hq : q < 16) (w : World) :
    (execOp a.eval o).run P w = .ok (.value (.int .i64 ((q % 2 : Nat) : Int))) w := by
  have e := and_one hq
  unfold execOp
  simp only [ho, hx, hy, eqGuard, binOp, Op.intArith, Op.intBits]
  simp [IntKind.bits, Op.intBits, Op.intArith]
  exact e
set_option maxRecDepth 100000 in
/-- A digest out of a path that lies in no variable. -/
theorem run_op_indexP {L : List (List Nat)} (hL : P4 L) (x ix : Operand) (ho : o.op = .index 29 x ix) (hx : a.eval x = .agg (dgC L).toArray) (k : Nat) (hi : a.eval ix = .int .i64 (k : Int)) (hk : k < 4) (w : World) :
    (execOp a.eval o).run Tryd.prog w = .ok (.value (.agg (u8s (L.getD k [])).toArray)) w := by
  have hd := hL.get hk
  have hu : Tryd.prog.underlying 29 = some (.array 4 23) := by kernel_rfl
  have c1 : Tryd.prog.cellsOf 23 = 32 := by kernel_rfl
  have hs : ∀ w : World, (sizeOf 23).run Tryd.prog w = .ok 32 w := fun w => by kernel_rfl
  have kd := hL.at hk
  have hh := dg_has L [] k _ hL.ok hd
  have hc := hh.chunk (h_len kd)
  simp only [List.nil_append, List.length_nil, Nat.zero_add] at hc
  have hp := run_part_fit (P := Tryd.prog) w (d := 2) (e := 23) (xs := dgC L) (off := k * 32) (by rw [c1, Nat.mul_comm, hc]; exact Ep.fit_hash 0 kd)
  rw [c1, Nat.mul_comm k 32, hc, row_cells (show Tryd.prog.underlying 23 = some (.array 32 5) by kernel_rfl) rfl, Nat.mul_comm 32 k] at hp
  unfold execOp
  simp [ho, hx, hi, Instr.index, asIntOf, run_underlying hu, hs, hk, hp, Result.andThen]
end
/-! ### Variables of one cell; a function value is made -/
section
variable {P : Program} {ops : Array Oper} {rest : List Oper} {o : Oper} {a : Act} {w : World} {Q : Exit → Act → World → Prop}
theorem arm_box1 (hgd : o.guard = none) (t : TypeId) (x : Operand) (ho : o.op = .box t x) (v : Value) (hx : a.eval x = v) (hc : v.cells = #[v])
    (h : ∀ b w2, Hid (b = w.heap.size) → Row w2 b t [v] → New w w2 → wpList P ops Q rest (a.put o.dst (.pointer (some ⟨b, 0, none⟩))) w2) : wpList P ops Q (o :: rest) a w := by
  refine wpList_plain hgd fun K hK => ?_
  have hr : (execOp a.eval o).run P w = .ok (.value (.pointer (some ⟨w.heap.size, 0, none⟩))) (w.alloc (.cells [v].toArray t)) := by
    unfold execOp
    simp [ho, hx, Instr.box, newVar, newRow, hc]
  unfold Oper.wp
  rw [hr]
  exact hK _ _ (h _ _ rfl (heap_alloc_new _ _) (new_alloc _ _))
theorem arm_alloc1 (hgd : o.guard = none) (t : TypeId) (ho : o.op = .alloc t) (z : Value) (hz : (P.info? t).bind (·.zero) = some z) (hc : z.cells = #[z])
    (h : ∀ b w2, Hid (b = w.heap.size) → Row w2 b t [z] → New w w2 → wpList P ops Q rest (a.put o.dst (.pointer (some ⟨b, 0, none⟩))) w2) : wpList P ops Q (o :: rest) a w := by
  refine wpList_plain hgd fun K hK => ?_
  have hr : (execOp a.eval o).run P w = .ok (.value (.pointer (some ⟨w.heap.size, 0, none⟩))) (w.alloc (.cells [z].toArray t)) := by
    cases hi : P.info? t with
    | none => simp [hi] at hz
    | some i =>
      simp [hi] at hz
      unfold execOp
      simp [ho, Instr.alloc, zeroValue, typeInfo, hi, hz, newVar, newRow, hc]
  unfold Oper.wp
  rw [hr]
  exact hK _ _ (h _ _ rfl (heap_alloc_new _ _) (new_alloc _ _))
theorem run_op_makeFunc (fn : Fn) (xs ys : Array Operand) (ho : o.op = .makeFunc fn xs ys) (us vs : Array Value) (hx : xs.map a.eval = us) (hy : ys.map a.eval = vs) : (execOp a.eval o).run P w = .ok (.value (.func fn us vs)) w := by
  unfold execOp
  simp only [ho, hx, hy]
  rfl
end
/-! ### A way that is gone up -/
/-- The closure's variables: its height so far, the digest so far, the place. -/
structure UpAt (w : World) (H S P p k : Nat) (d : List Nat) : Prop where
  rh : Row w H 3 [.int .i64 (k : Int)]
  rs : Row w S 23 (u8s d)
  rp : Row w P 3 [.int .i64 (p : Int)]
  ps : P < S
  sh : S < H
def upV (H S P : Nat) : Value := .func (.func 47) #[] #[.pointer (some ⟨H, 0, none⟩), .pointer (some ⟨S, 0, none⟩), .pointer (some ⟨P, 0, none⟩)]
section
variable {w w' : World} {H S P p k : Nat} {d : List Nat}
theorem UpAt.lt (h : UpAt w H S P p k d) : H < w.heap.size := h.rh.lt
theorem UpAt.old (h : UpAt w H S P p k d) (hb : Below w.heap.size w w') : UpAt w' H S P p k d := ⟨h.rh.old hb, h.rs.old hb, h.rp.old hb, h.ps, h.sh⟩
theorem UpAt.only {c : Nat} (h : UpAt w H S P p k d) (ho : Only c w w') (hc : c < P ∨ H < c) : UpAt w' H S P p k d :=
  ⟨h.rh.only ho (by have := h.ps; have := h.sh; omega), h.rs.only ho (by have := h.ps; have := h.sh; omega), h.rp.only ho (by have := h.ps; have := h.sh; omega), h.ps, h.sh⟩
theorem UpAt.two {b c : Nat} (h : UpAt w H S P p k d) (ho : Two b c w w') (hb : b < P ∨ H < b) (hc : c < P ∨ H < c) : UpAt w' H S P p k d :=
  ⟨h.rh.two ho (by have := h.ps; have := h.sh; omega) (by have := h.ps; have := h.sh; omega), h.rs.two ho (by have := h.ps; have := h.sh; omega) (by have := h.ps; have := h.sh; omega), h.rp.two ho (by have := h.ps; have := h.sh; omega) (by have := h.ps; have := h.sh; omega), h.ps, h.sh⟩
end
theorem two_step {b c : Nat} {w0 w w' : World} (h : Two b c w0 w) (g : Below w.heap.size w w') : Two b c w0 w' := h.trans (Two.of_below b c g)
theorem two_only {b c d : Nat} {w0 w w' : World} (h : Two b c w0 w) (g : Only d w w') (hd : d = b ∨ d = c ∨ w0.heap.size ≤ d) : Two b c w0 w' :=
  ⟨g.os.trans h.os, g.tape.trans h.tape, g.output.trans h.output, Nat.le_trans h.size g.size, fun k hk h1 h2 => (g.block k (Nat.lt_of_lt_of_le hk h.size) (by omega)).trans (h.block k hk h1 h2)⟩
theorem _root_.Go.Proofs.YtaihhbiocolhcaaDoor.Mem.Below.two_ {b c n : Nat} {w0 w w' : World} (h : Below n w0 w) (g : Two b c w w') (hb : n ≤ b) (hc : n ≤ c) (hs : n ≤ w.heap.size) : Below n w0 w' := h.trans (g.below hb hc hs)
/-- What a node joins. -/
def lft (p k : Nat) (d b : List Nat) : List Nat := if p / 2 ^ k % 2 = 0 then d else b
def rgt (p k : Nat) (d b : List Nat) : List Nat := if p / 2 ^ k % 2 = 0 then b else d
def nxt (p k : Nat) (d b : List Nat) : List Nat := joinD (k + 1) (lft p k d b) (rgt p k d b)
theorem nxt_ok (p k : Nat) (d b : List Nat) : H32 (nxt p k d b) := join_ok _ _ _
theorem lft_ok {p k : Nat} {d b : List Nat} (kd : H32 d) (kb : H32 b) : H32 (lft p k d b) := by unfold lft; split <;> assumption
theorem rgt_ok {p k : Nat} {d b : List Nat} (kd : H32 d) (kb : H32 b) : H32 (rgt p k d b) := by unfold rgt; split <;> assumption
theorem nxt_lead (p k : Nat) (L : List (List Nat)) (leaf : List Nat) : nxt p k (leadK p L leaf k) (L.getD k []) = leadK p L leaf (k + 1) := by
  rw [lead_succ]
  unfold nxt lft rgt
  split <;> rfl
theorem parts_lr (p k : Nat) (d b : List Nat) : partsK p k d b = [[k + 1], lft p k d b, rgt p k d b] := by
  unfold partsK lft rgt
  split <;> rfl
theorem one_i (k : IntKind) (n : Int) : (Value.int k n).oneCell' = true := rfl
theorem lt_one (v : Value) : 0 < [v].length := Nat.zero_lt_one
theorem sz_int : (Tryd.prog.info? 3).map (·.size) = some 1 := by kernel_rfl
/-! ### The walk stands still; a function value is called in it; a part of a struct that lies in no variable -/
def Pause (p : Prop) : Prop := p
theorem pause {p : Prop} (h : Pause p) : p := h
theorem go_on {p : Prop} (h : p) : Pause p := h
section
variable {P : Program} {ops : Array Oper} {rest : List Oper} {o : Oper} {a : Act} {w : World} {Q : Exit → Act → World → Prop}
theorem arm_callV (hgd : o.guard = none) (d : Tmp) (hd : o.dst = some d) (f : FuncId) (g : Operand) (xs : Array Operand) (ats : Array TypeId) (ho : o.op = .call { callee := .value g, args := xs, argTypes := ats }) (cap : Array Value) (hg : a.eval g = .func (.func f) #[] cap) (args : Array Value) (hx : xs.map a.eval = args) {fn : Func} (hf : P.funcs[f]? = some fn)
    (hb : fn.body.isNone = false) (hn : (fn.name == "runtime.NumGoroutine") = false) {R : Ending → World → Prop} (hc : Calls P f (args ++ cap) w R) (h : ∀ e w', R e w' → ∃ v, e = .returned v ∧ wpList P ops Q rest (a.put (some d) v) w') : wpList P ops Q (o :: rest) a w := by
  refine wpList_plain hgd fun K hK => ?_
  unfold Oper.wp
  rw [run_op_callV f g xs ats ho cap hg args hx hf hb hn w]
  exact hc.mono fun e w' hR => by
    obtain ⟨v, rfl, hk⟩ := h e w' hR
    rw [← hd] at hk
    exact hK _ _ hk
end
set_option maxRecDepth 100000 in
theorem run_op_fieldD {h : Nat} {l r d : List Nat} (kl : H32 l) (kr : H32 r) (kd : H32 d) {o : Oper} {a : Act} (x : Operand) (ho : o.op = .field 74 x 3) (hx : a.eval x = .agg (ncs h l r d).toArray) (w : World) :
    (execOp a.eval o).run Tryd.prog w = .ok (.value (.agg (u8s d).toArray)) w := by
  obtain ⟨f, hf, ht, hof⟩ : ∃ f, (Tryd.prog.fieldsOf 74)[3]? = some f ∧ f.type = 23 ∧ f.offset = 65 := ⟨(Tryd.prog.fieldsOf 74)[3]!, by kernel_rfl, by kernel_rfl, by kernel_rfl⟩
  have hu : Tryd.prog.underlying 74 = some (.struct (Tryd.prog.fieldsOf 74)) := by kernel_rfl
  generalize Tryd.prog.fieldsOf 74 = fs at hf hu
  have c1 : Tryd.prog.cellsOf 23 = 32 := by kernel_rfl
  have hc := (n_d (h := h) (d := d) kl kr).chunk (h_len kd)
  have hp := run_part_fit (P := Tryd.prog) w (d := 2) (e := 23) (xs := ncs h l r d) (off := 65) (by rw [c1, hc]; exact Ep.fit_hash 0 kd)
  rw [c1, hc, row_cells (show Tryd.prog.underlying 23 = some (.array 32 5) by kernel_rfl) rfl] at hp
  unfold execOp
  simp [ho, hx, Instr.field, asAgg, run_underlying hu, hf, ht, hof, hp, Result.andThen]
/-! ### Quotients, remainders, sums -/
section
variable {P : Program} {o : Oper} {a : Act}
theorem run_op_quoN (t t' : TypeId) (x y : Operand) (ho : o.op = .binOp .quo t x y t') (q n : Nat) (hx : a.eval x = .int .i64 (q : Int)) (hy : a.eval y = .int .i64 (n : Int)) (hn : 0 < n) (hq : q ≤ 9223372036854775807) (w : World) :
    (execOp a.eval o).run P w = .ok (.value (.int .i64 ((q / n : Nat) : Int))) w := by
  have e1 : Int.tdiv (q : Int) (n : Int) = ((q / n : Nat) : Int) := rfl
  have e2 : IntKind.i64.wrap ((q / n : Nat) : Int) = ((q / n : Nat) : Int) := by rw [IntKind.wrap_i64]; have := Nat.div_le_self q n; generalize q / n = z at *; omega
  have h0 : ¬ (n : Int) = 0 := by omega
  unfold execOp
  simp only [ho, hx, hy, eqGuard, binOp, Op.intDiv, h0, if_false, e1, e2, Sem.run_bind, Sem.run_pure, Result.andThen_ok]
  rfl
theorem run_op_remN (t t' : TypeId) (x y : Operand) (ho : o.op = .binOp .rem t x y t') (q n : Nat) (hx : a.eval x = .int .i64 (q : Int)) (hy : a.eval y = .int .i64 (n : Int)) (hn : 0 < n) (w : World) :
    (execOp a.eval o).run P w = .ok (.value (.int .i64 ((q % n : Nat) : Int))) w := by
  have e1 : Int.tmod (q : Int) (n : Int) = ((q % n : Nat) : Int) := rfl
  have h0 : ¬ (n : Int) = 0 := by omega
  unfold execOp
  simp only [ho, hx, hy, eqGuard, binOp, Op.intDiv, h0, if_false, e1, Sem.run_bind, Sem.run_pure, Result.andThen_ok]
  rfl
end
/-! ### Paths as bytes -/
theorem dgC_flat : ∀ L : List (List Nat), dgC L = u8s (pathB L)
  | [] => rfl
  | x :: L => by
    rw [dgC_cons, dgC_flat L, ← u8s_append]
    rfl
theorem pathB_snoc {L : List (List Nat)} {k : Nat} (hk : k < L.length) : pathB (L.take (k + 1)) = pathB (L.take k) ++ L.getD k [] := by
  unfold pathB
  rw [Tg.take_snoc L k hk, List.flatten_append]
  simp
theorem P4.take_len {L : List (List Nat)} (h : P4 L) {k : Nat} (hk : k ≤ 4) : (pathB (L.take k)).length = 32 * k := by
  rw [pathB_len (fun x hx => h.ok x (List.mem_of_mem_take hx)), List.length_take, h.len]
  omega
theorem P4.bytes_len {L : List (List Nat)} (h : P4 L) : (pathB L).length = 128 := by rw [pathB_len h.ok, h.len]
theorem pathB_lt : ∀ {L : List (List Nat)}, (∀ x ∈ L, H32 x) → AllLt 256 (pathB L)
  | [], _ => fun x hx => by cases hx
  | x :: L, h => append_lt (h x (by simp)).lt (pathB_lt fun y hy => h y (by simp [hy]))
/-- A path that is read, behind so many rounds. -/
def rdL (b : List Nat) : Nat → List (List Nat)
  | 0 => z4
  | k + 1 => (rdL b k).set k ((b.drop (32 * k)).take 32)
theorem chunk_ok {b : List Nat} (hl : AllLt 256 b) (h : b.length = 128) {k : Nat} (hk : k < 4) : H32 ((b.drop (32 * k)).take 32) :=
  ⟨by rw [List.length_take, List.length_drop]; omega, fun y hy => hl y (List.mem_of_mem_drop (List.mem_of_mem_take hy))⟩
theorem rdL_ok {b : List Nat} (hl : AllLt 256 b) (h : b.length = 128) : ∀ k, k ≤ 4 → ∀ x ∈ rdL b k, H32 x
  | 0, _ => z4_ok
  | k + 1, hk => all_set (rdL_ok hl h k (by omega)) (chunk_ok hl h (by omega)) k
theorem rdL_len (b : List Nat) : ∀ k, (rdL b k).length = 4
  | 0 => rfl
  | k + 1 => by unfold rdL; rw [List.length_set, rdL_len b k]
theorem rdL_all (b : List Nat) : rdL b 4 = pathOf b := by
  show [(b.drop (32 * 0)).take 32, (b.drop (32 * 1)).take 32, (b.drop (32 * 2)).take 32, (b.drop (32 * 3)).take 32] = _
  rfl
theorem path_lay' {L : List (List Nat)} (h : ∀ x ∈ L, H32 x) {d : List Nat} (kd : H32 d) {i : Nat} (hi : i < L.length) : lay (dgC L) (32 * i) (u8s d) = dgC (L.set i d) := by
  have := dg_lay L [] i d h kd hi
  simpa using this
/-- What Read answers. -/
def rdP (b : List Nat) : List (List Nat) := if b.length = 128 then pathOf b else z4
def rdE (b : List Nat) : Nat := if b.length < 128 then 3 else if 128 < b.length then 4 else 0
theorem rdP_p4 {b : List Nat} (hl : AllLt 256 b) : P4 (rdP b) := by
  unfold rdP
  split
  · rename_i h; exact ⟨pathOf_ok hl h, rfl⟩
  · exact z4_p4
theorem rdP_back {L : List (List Nat)} (h : P4 L) : rdP (pathB L) = L := by
  unfold rdP
  rw [if_pos h.bytes_len, path_back h.ok h.len]
theorem rdE_back {L : List (List Nat)} (h : P4 L) : rdE (pathB L) = 0 := by
  unfold rdE
  rw [h.bytes_len]
  rfl
theorem range_take {w : World} {g o : Nat} {bs : List Nat} (n : Nat) (h : w.rangeAt g o (u8s bs)) : w.rangeAt g o (u8s (bs.take n)) := fun j v hj => by
  refine h j v ?_
  unfold u8s at hj ⊢
  rw [List.map_take, List.getElem?_take] at hj
  split at hj
  · exact hj
  · cases hj
theorem _root_.Go.Proofs.YtaihhbiocolhcaaDoor.Bt.Came.tail {w : World} {g o c m : Nat} {bs : List Nat} (h : Came w (some ⟨g, o, none⟩) c bs) (hm : m ≤ bs.length) : Came w (onP (some ⟨g, o, none⟩) m c) (c - m) (bs.drop m) := by
  refine ⟨by have := h.cap_; rw [List.length_drop]; omega, fun e => ?_, fun hne => ?_, fun x hx => h.lt_ x (List.mem_of_mem_drop hx), by have := h.max_; omega⟩
  · unfold onP at e
    split at e <;> cases e
  · have hlt : m < bs.length := by
      rcases Nat.lt_or_ge m bs.length with g | g
      · exact g
      · exact absurd (List.drop_eq_nil_of_le g) hne
    have := h.cap_
    refine ⟨g, o + m, onP_some _ _ _ _ (by omega), fun j v hj => ?_⟩
    obtain ⟨g', o', e, hr⟩ := h.at_ (fun e => by rw [e] at hlt; simp at hlt)
    cases e
    rw [Nat.add_assoc]
    refine hr (m + j) v ?_
    unfold u8s at hj ⊢
    rw [List.map_drop, List.getElem?_drop] at hj
    exact hj
end Go.Proofs.YtaihhbiocolhcaaDoor.Pf
