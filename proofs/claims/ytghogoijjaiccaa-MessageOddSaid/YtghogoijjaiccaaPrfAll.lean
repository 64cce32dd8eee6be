import Derived.Test.YtghogoijjaiccaaTreAll
import Derived.Test.YtghogoijjaiccaaCmp
import Derived.Test.YtghogoijjaiccaaMemAll
import Derived.Test.YtghogoijjaiccaaTagAll
import Derived.Test.YtghogoijjaiccaaAccAll
import Derived.Test.YtghogoijjaiccaaTagOne
/-
  Paths that lead from a leaf's digest upwards, over lists: of a tree they lead to its nodes; two unlike accounts at one place and root are a clash of digests; a path of which one digest is another one leads elsewhere, or a clash is at hand; a path's bytes, and back. No program.
-/
namespace Go.Proofs.Ytghogoijjaiccaa.Pf
open Go.Proofs.Ytghogoijjaiccaa.Bt Go.Proofs.Ytghogoijjaiccaa.Ac Go.Proofs.Ytghogoijjaiccaa.Tr
open Go.Proofs.Ytghogoijjaiccaa.Sha (digest)
open Go.Proofs.Ytghogoijjaiccaa.Tg (tagD image bytesOf)
open Go.Proofs.Ytghogoijjaiccaa.Ep (H32)
set_option linter.unusedVariables false
set_option linter.unusedSimpArgs false

theorem getD_ok {L : List (List Nat)} (h : ∀ x ∈ L, H32 x) {k : Nat} (hk : k < L.length) : H32 (L.getD k []) := by
  rw [List.getD_eq_getElem?_getD, List.getElem?_eq_getElem hk]
  exact h _ (List.getElem_mem hk)
def pathB (L : List (List Nat)) : List Nat := L.flatten
def pathOf (b : List Nat) : List (List Nat) := [b.take 32, (b.drop 32).take 32, (b.drop 64).take 32, (b.drop 96).take 32]
theorem pathB_len : ∀ {L : List (List Nat)}, (∀ x ∈ L, H32 x) → (pathB L).length = L.length * 32
  | [], _ => rfl
  | x :: L, h => by
    show (x ++ pathB L).length = _
    rw [List.length_append, (h x (by simp)).len, pathB_len (fun y hy => h y (by simp [hy])), List.length_cons]
    omega
end Go.Proofs.Ytghogoijjaiccaa.Pf

/-
  Package proof's nodes and claims (and the document's claims) as cells; a call of a function value; single operations on places and paths. Over this seat's translation.
-/
namespace Go.Proofs.Ytghogoijjaiccaa.Pf
open Go.ChangeShapes Go.WideShapes Go.ChangeAt Go.RowKit Go.Proofs.Ytghogoijjaiccaa.Mem Go.Proofs.Ytghogoijjaiccaa.Bt Go.Proofs.Ytghogoijjaiccaa.Sha Go.Proofs.Ytghogoijjaiccaa.Ac Go.Proofs.Ytghogoijjaiccaa.Tr
open Go.Proofs.Ytghogoijjaiccaa.Ep (H32 zh zh_ok Has h_len szH zH fitH allH one_app)
set_option linter.unusedVariables false
set_option linter.unusedSimpArgs false

/-- A claim's path: four digests. -/
structure P4 (L : List (List Nat)) : Prop where
  ok : ∀ x ∈ L, H32 x
  len : L.length = 4
theorem z4_p4 : P4 z4 := ⟨z4_ok, rfl⟩
theorem P4.get {L : List (List Nat)} (h : P4 L) {k : Nat} (hk : k < 4) : L[k]? = some (L.getD k []) := by
  have h2 := h.len
  rw [List.getD_eq_getElem?_getD, List.getElem?_eq_getElem (by omega)]
  rfl
theorem P4.at {L : List (List Nat)} (h : P4 L) {k : Nat} (hk : k < 4) : H32 (L.getD k []) := getD_ok h.ok (by have := h.len; omega)
structure Two (b c : Nat) (w w' : World) : Prop where
  os : w'.os = w.os
  tape : w'.tape = w.tape
  output : w'.output = w.output
  size : w.heap.size ≤ w'.heap.size
  block : ∀ k, k < w.heap.size → k ≠ b → k ≠ c → w'.heap[k]? = w.heap[k]?
theorem Two.of_below {w w' : World} (b c : Nat) (h : Below w.heap.size w w') : Two b c w w' := ⟨h.os, h.tape, h.output, h.size, fun k hk _ _ => h.block k hk⟩
theorem Two.trans {b c : Nat} {w w1 w2 : World} (h : Two b c w w1) (g : Two b c w1 w2) : Two b c w w2 :=
  ⟨g.os.trans h.os, g.tape.trans h.tape, g.output.trans h.output, Nat.le_trans h.size g.size, fun k hk h1 h2 => (g.block k (Nat.lt_of_lt_of_le hk h.size) h1 h2).trans (h.block k hk h1 h2)⟩
theorem Two.below {b c n : Nat} {w w' : World} (h : Two b c w w') (hb : n ≤ b) (hc : n ≤ c) (hs : n ≤ w.heap.size) : Below n w w' :=
  ⟨h.os, h.tape, h.output, h.size, fun k hk => h.block k (by omega) (by omega) (by omega)⟩
theorem _root_.Go.Proofs.Ytghogoijjaiccaa.Mem.Row.two {w w' : World} {b c d : Nat} {t : TypeId} {cs : List Value} (h : Row w d t cs) (ho : Two b c w w') (h1 : d ≠ b) (h2 : d ≠ c) : Row w' d t cs := h.of_block (ho.block d h.lt h1 h2)
section
variable {P : Program} {o : Oper} {a : Act}
set_option maxRecDepth 100000 in
/-- A digest out of a path that lies in no variable. -/
theorem run_op_indexP {L : List (List Nat)} (hL : P4 L) (x ix : Operand) (ho : o.op = .index 40 x ix) (hx : a.eval x = .agg (dgC L).toArray) (k : Nat) (hi : a.eval ix = .int .i64 (k : Int)) (hk : k < 4) (w : World) :
    (execOp a.eval o).run Try.prog w = .ok (.value (.agg (u8s (L.getD k [])).toArray)) w := by
  have hd := hL.get hk
  have hu : Try.prog.underlying 40 = some (.array 4 24) := by kernel_rfl
  have c1 : Try.prog.cellsOf 24 = 32 := by kernel_rfl
  have hs : ∀ w : World, (sizeOf 24).run Try.prog w = .ok 32 w := fun w => by kernel_rfl
  have kd := hL.at hk
  have hh := dg_has L [] k _ hL.ok hd
  have hc := hh.chunk (h_len kd)
  simp only [List.nil_append, List.length_nil, Nat.zero_add] at hc
  have hp := run_part_fit (P := Try.prog) w (d := 2) (e := 24) (xs := dgC L) (off := k * 32) (by rw [c1, Nat.mul_comm, hc]; exact Ep.fit_hash 0 kd)
  rw [c1, Nat.mul_comm k 32, hc, row_cells (show Try.prog.underlying 24 = some (.array 32 5) by kernel_rfl) rfl, Nat.mul_comm 32 k] at hp
  unfold execOp
  simp [ho, hx, hi, Instr.index, asIntOf, run_underlying hu, hs, hk, hp, Result.andThen]
end
section
variable {P : Program} {ops : Array Oper} {rest : List Oper} {o : Oper} {a : Act} {w : World} {Q : Exit → Act → World → Prop}
theorem run_op_makeFunc (fn : Fn) (xs ys : Array Operand) (ho : o.op = .makeFunc fn xs ys) (us vs : Array Value) (hx : xs.map a.eval = us) (hy : ys.map a.eval = vs) : (execOp a.eval o).run P w = .ok (.value (.func fn us vs)) w := by
  unfold execOp
  simp only [ho, hx, hy]
  rfl
end
/-- The closure's variables: its height so far, the digest so far, the place. -/
structure UpAt (w : World) (H S P p k : Nat) (d : List Nat) : Prop where
  rh : Row w H 3 [.int .i64 (k : Int)]
  rs : Row w S 24 (u8s d)
  rp : Row w P 3 [.int .i64 (p : Int)]
  ps : P < S
  sh : S < H
section
variable {w w' : World} {H S P p k : Nat} {d : List Nat}
theorem UpAt.lt (h : UpAt w H S P p k d) : H < w.heap.size := h.rh.lt
theorem UpAt.old (h : UpAt w H S P p k d) (hb : Below w.heap.size w w') : UpAt w' H S P p k d := ⟨h.rh.old hb, h.rs.old hb, h.rp.old hb, h.ps, h.sh⟩
theorem UpAt.only {c : Nat} (h : UpAt w H S P p k d) (ho : Only c w w') (hc : c < P ∨ H < c) : UpAt w' H S P p k d :=
  ⟨h.rh.only ho (by have := h.ps; have := h.sh; omega), h.rs.only ho (by have := h.ps; have := h.sh; omega), h.rp.only ho (by have := h.ps; have := h.sh; omega), h.ps, h.sh⟩
theorem UpAt.two {b c : Nat} (h : UpAt w H S P p k d) (ho : Two b c w w') (hb : b < P ∨ H < b) (hc : c < P ∨ H < c) : UpAt w' H S P p k d :=
  ⟨h.rh.two ho (by have := h.ps; have := h.sh; omega) (by have := h.ps; have := h.sh; omega), h.rs.two ho (by have := h.ps; have := h.sh; omega) (by have := h.ps; have := h.sh; omega), h.rp.two ho (by have := h.ps; have := h.sh; omega) (by have := h.ps; have := h.sh; omega), h.ps, h.sh⟩
end
theorem two_step {b c : Nat} {w0 w w' : World} (h : Two b c w0 w) (g : Below w.heap.size w w') : Two b c w0 w' := h.trans (Two.of_below b c g)
theorem two_only {b c d : Nat} {w0 w w' : World} (h : Two b c w0 w) (g : Only d w w') (hd : d = b ∨ d = c ∨ w0.heap.size ≤ d) : Two b c w0 w' :=
  ⟨g.os.trans h.os, g.tape.trans h.tape, g.output.trans h.output, Nat.le_trans h.size g.size, fun k hk h1 h2 => (g.block k (Nat.lt_of_lt_of_le hk h.size) (by omega)).trans (h.block k hk h1 h2)⟩
theorem one_i (k : IntKind) (n : Int) : (Value.int k n).oneCell' = true := rfl
theorem sz_int : (Try.prog.info? 3).map (·.size) = some 1 := by kernel_rfl
def Pause (p : Prop) : Prop := p
theorem pause {p : Prop} (h : Pause p) : p := h
theorem go_on {p : Prop} (h : p) : Pause p := h
section
variable {P : Program} {ops : Array Oper} {rest : List Oper} {o : Oper} {a : Act} {w : World} {Q : Exit → Act → World → Prop}
end
section
variable {P : Program} {o : Oper} {a : Act}
end
theorem pathB_snoc {L : List (List Nat)} {k : Nat} (hk : k < L.length) : pathB (L.take (k + 1)) = pathB (L.take k) ++ L.getD k [] := by
  unfold pathB
  rw [Tg.take_snoc L k hk, List.flatten_append]
  simp
theorem P4.take_len {L : List (List Nat)} (h : P4 L) {k : Nat} (hk : k ≤ 4) : (pathB (L.take k)).length = 32 * k := by
  rw [pathB_len (fun x hx => h.ok x (List.mem_of_mem_take hx)), List.length_take, h.len]
  omega
theorem P4.bytes_len {L : List (List Nat)} (h : P4 L) : (pathB L).length = 128 := by rw [pathB_len h.ok, h.len]
theorem pathB_lt : ∀ {L : List (List Nat)}, (∀ x ∈ L, H32 x) → AllLt 256 (pathB L)
  | [], _ => fun x hx => by cases hx
  | x :: L, h => append_lt (h x (by simp)).lt (pathB_lt fun y hy => h y (by simp [hy]))
/-- What Read answers. -/
def rdP (b : List Nat) : List (List Nat) := if b.length = 128 then pathOf b else z4
def rdE (b : List Nat) : Nat := if b.length < 128 then 3 else if 128 < b.length then 4 else 0
theorem range_take {w : World} {g o : Nat} {bs : List Nat} (n : Nat) (h : w.rangeAt g o (u8s bs)) : w.rangeAt g o (u8s (bs.take n)) := fun j v hj => by
  refine h j v ?_
  unfold u8s at hj ⊢
  rw [List.map_take, List.getElem?_take] at hj
  split at hj
  · exact hj
  · cases hj
theorem _root_.Go.Proofs.Ytghogoijjaiccaa.Bt.Came.tail {w : World} {g o c m : Nat} {bs : List Nat} (h : Came w (some ⟨g, o, none⟩) c bs) (hm : m ≤ bs.length) : Came w (onP (some ⟨g, o, none⟩) m c) (c - m) (bs.drop m) := by
  refine ⟨by have := h.cap_; rw [List.length_drop]; omega, fun e => ?_, fun hne => ?_, fun x hx => h.lt_ x (List.mem_of_mem_drop hx), by have := h.max_; omega⟩
  · unfold onP at e
    split at e <;> cases e
  · have hlt : m < bs.length := by
      rcases Nat.lt_or_ge m bs.length with g | g
      · exact g
      · exact absurd (List.drop_eq_nil_of_le g) hne
    have := h.cap_
    refine ⟨g, o + m, onP_some _ _ _ _ (by omega), fun j v hj => ?_⟩
    obtain ⟨g', o', e, hr⟩ := h.at_ (fun e => by rw [e] at hlt; simp at hlt)
    cases e
    rw [Nat.add_assoc]
    refine hr (m + j) v ?_
    unfold u8s at hj ⊢
    rw [List.map_drop, List.getElem?_drop] at hj
    exact hj
end Go.Proofs.Ytghogoijjaiccaa.Pf

/-
  The contracts of package proof's climb and of the closure that it answers: a way is gone up, node by node. Over this seat's translation.
-/
namespace Go.Proofs.Ytghogoijjaiccaa.Pf
open Go.ChangeShapes Go.WideShapes Go.ChangeAt Go.RowKit Go.Proofs.Ytghogoijjaiccaa.Mem Go.Proofs.Ytghogoijjaiccaa.Bt Go.Proofs.Ytghogoijjaiccaa.Wi Go.Proofs.Ytghogoijjaiccaa.Sha Go.Proofs.Ytghogoijjaiccaa.Ac Go.Proofs.Ytghogoijjaiccaa.Tr
open Go.Proofs.Ytghogoijjaiccaa.Tg (bytesOf bytesOf_length bytesOf_lt bytesOf_inj Rd Rd.below Parts tagD image)
open Go.Proofs.Ytghogoijjaiccaa.Ep (H32 zh zh_ok Has h_len szH zH fitH allH one_app)
set_option linter.unusedVariables false
set_option linter.unusedSimpArgs false

end Go.Proofs.Ytghogoijjaiccaa.Pf

/-
  The contract of package proof's Lead: to which digest a path leads. Over this seat's translation.
-/
namespace Go.Proofs.Ytghogoijjaiccaa.Pf
open Go.ChangeShapes Go.WideShapes Go.ChangeAt Go.RowKit Go.Proofs.Ytghogoijjaiccaa.Mem Go.Proofs.Ytghogoijjaiccaa.Bt Go.Proofs.Ytghogoijjaiccaa.Wi Go.Proofs.Ytghogoijjaiccaa.Sha Go.Proofs.Ytghogoijjaiccaa.Ac Go.Proofs.Ytghogoijjaiccaa.Tr
open Go.Proofs.Ytghogoijjaiccaa.Tg (bytesOf bytesOf_length bytesOf_lt bytesOf_inj Rd Rd.below Parts tagD image)
open Go.Proofs.Ytghogoijjaiccaa.Ep (H32 zh zh_ok Has h_len szH zH fitH allH one_app)
set_option linter.unusedVariables false
set_option linter.unusedSimpArgs false

end Go.Proofs.Ytghogoijjaiccaa.Pf

/-
  The contracts of package proof's Claim.end, meet and Check: whether an account stands in a ledger; whether two claims lead to one digest. Over this seat's translation.
-/
namespace Go.Proofs.Ytghogoijjaiccaa.Pf
open Go.ChangeShapes Go.WideShapes Go.ChangeAt Go.RowKit Go.Proofs.Ytghogoijjaiccaa.Mem Go.Proofs.Ytghogoijjaiccaa.Bt Go.Proofs.Ytghogoijjaiccaa.Wi Go.Proofs.Ytghogoijjaiccaa.Sha Go.Proofs.Ytghogoijjaiccaa.Ac Go.Proofs.Ytghogoijjaiccaa.Tr
open Go.Proofs.Ytghogoijjaiccaa.Tg (bytesOf bytesOf_length bytesOf_lt bytesOf_inj Rd Rd.below Parts tagD image)
open Go.Proofs.Ytghogoijjaiccaa.Ep (H32 zh zh_ok Has h_len szH zH fitH allH one_app)
set_option linter.unusedVariables false
set_option linter.unusedSimpArgs false

instance : DecidableEq Acct := fun ⟨s, x, y⟩ ⟨t, u, v⟩ => if h : s = t ∧ x = u ∧ y = v then isTrue (by obtain ⟨rfl, rfl, rfl⟩ := h; rfl) else isFalse (fun e => h (by cases e; exact ⟨rfl, rfl, rfl⟩))
end Go.Proofs.Ytghogoijjaiccaa.Pf

/-
  The contracts of Bytes and Read, package proof's and the document's: a path's bytes, and the path of bytes. Over this seat's translation.
-/
namespace Go.Proofs.Ytghogoijjaiccaa.Pf
open Go.ChangeShapes Go.WideShapes Go.ChangeAt Go.RowKit Go.Proofs.Ytghogoijjaiccaa.Mem Go.Proofs.Ytghogoijjaiccaa.Bt Go.Proofs.Ytghogoijjaiccaa.Wi Go.Proofs.Ytghogoijjaiccaa.Sha Go.Proofs.Ytghogoijjaiccaa.Ac Go.Proofs.Ytghogoijjaiccaa.Tr
open Go.Proofs.Ytghogoijjaiccaa.Tg (bytesOf bytesOf_length bytesOf_lt bytesOf_inj Rd Rd.below Parts tagD image)
open Go.Proofs.Ytghogoijjaiccaa.Ep (H32 zh zh_ok Has h_len szH zH fitH allH one_app)
set_option linter.unusedVariables false
set_option linter.unusedSimpArgs false

/-- An element of a slice of one cell each. -/
theorem run_op_idxS {P : Program} {o : Oper} {a : Act} (t : TypeId) (x ix : Operand) (ho : o.op = .indexAddr t x ix) (e : TypeId) (hu : P.underlying t = some (.slice e)) (hse : (P.info? e).map (·.size) = some 1)
    (g off len cap : Nat) (hx : a.eval x = .slice (some ⟨g, off, none⟩) len cap) (kk : IntKind) (i : Int) (hi : a.eval ix = .int kk i) (k : Nat) (hik : i = (k : Int)) (hk : k < len) (w : World) : (execOp a.eval o).run P w = .ok (.value (.pointer (some ⟨g, off + k, none⟩))) w := by
  subst hik
  cases hq : P.info? e with
  | none => simp [hq] at hse
  | some ie =>
    have hs : ie.size = 1 := by simpa [hq] using hse
    have h3 : (⟨g, off, none⟩ : Addr).add k = ⟨g, off + k, none⟩ := Addr.add_mid g off k
    unfold execOp
    simp [ho, hx, hi, Instr.indexAt, asIntOf, run_underlying hu, sizeOf, typeInfo, hq, hs, hk, h3, Instr.sureAddr]
structure BsPost (w : World) (L : List (List Nat)) (e : Ending) (w' : World) : Prop where
  ex : ∃ p cap, e = .returned (.slice p 128 cap) ∧ Came w' p cap (pathB L)
  bel : Below w.heap.size w w'
structure PbRel (w : World) (L : List (List Nat)) (i v : Value) (wr : World) : Prop where
  ex : ∃ k p cap, k ≤ 4 ∧ i = .int .i64 ((k : Nat) : Int) ∧ v = .slice p (32 * k) cap ∧ Own wr w.heap.size p cap (pathB (L.take k))
  bel : Below w.heap.size w wr
structure RbRel (w : World) (Y Z : Nat) (L : List (List Nat)) (i v : Value) (wr : World) : Prop where
  ex : ∃ k p cap, k ≤ 4 ∧ i = .int .i64 ((k : Nat) : Int) ∧ v = .slice p (32 * k) cap ∧ Own wr Z p cap (pathB (L.take k))
  ry : Row wr Y 39 (dgC L)
  sz : Z ≤ wr.heap.size
  bel : Below w.heap.size w wr
structure RdPost (w : World) (b : List Nat) (e : Ending) (w' : World) : Prop where
  ret : e = .returned (.tuple #[.agg (dgC (rdP b)).toArray, .int .i64 (rdE b : Int)])
  bel : Below w.heap.size w w'
/-- Bytes that are read one by one. -/
def byB (b : List Nat) (k : Nat) : List Nat := b.take k ++ List.replicate (128 - k) 0
structure RrRel (w : World) (Y R : Nat) (b : List Nat) (i : Value) (wr : World) : Prop where
  ex : ∃ k : Nat, k ≤ 128 ∧ i = .int .i64 (k : Int) ∧ Row wr Y 39 (u8s (byB b k))
  rr : Row wr R 39 (dgC z4)
  bel : Below w.heap.size w wr
theorem cell_below {w w' : World} {g o i : Nat} {b : List Nat} (h : w.rangeAt g o (u8s b)) (hi : i < b.length) (hb : Below w.heap.size w w') : w'.cell? ⟨g, o + i, none⟩ = some (.int .u8 ((b.getD i 0 : Nat) : Int)) :=
  range_block h (hb.block g (range_lt h (fun e => by have := congrArg List.length e; rw [u8s_length] at this; simp at this; rw [this] at hi; simp at hi))) i _ (u8s_get hi)
set_option maxHeartbeats 4000000 in
set_option maxRecDepth 100000 in
theorem bytes_any (L : List (List Nat)) (w : World) (h4 : P4 L) :
    Calls Try.prog 21 #[.agg (dgC L).toArray] w (BsPost w L) := by
  have H4 := Lib.hid h4
  have SP := Lib.hid (sz_path h4.ok h4.len)
  clear h4
  go_enter Try.func21, Try.ntmps21
  go_wp2_with (first
    | ((with_reducible refine at_slot 1 ?_); (refine arm_box (o := ⟨some 1, _, _, _, _, _⟩) rfl _ _ rfl (dgC L) rfl ?_); intro Y v1 Ye hv1 nv1; try simp only [Act.put, List.setIfInBounds_toArray, List.set_cons_zero, List.set_cons_succ])
    | ((with_reducible refine at_slot 6 ?_); (refine arm_load (o := ⟨some 6, _, _, _, _, _⟩) rfl _ _ rfl Y 0 rfl (dgC L) ((Has.refl _).range hv1) SP.out ?_); try simp only [Act.put, List.setIfInBounds_toArray, List.set_cons_zero, List.set_cons_succ]))
  have hbv1 := nv1.below
  have rrv1 : Row v1 Y 40 (dgC L) := hv1
  have geY : w.heap.size ≤ Y := by have := Ye.out; omega
  clear hv1 nv1 Ye
  have bel_2 : Below w.heap.size w v1 := hbv1
  clear hbv1
  try simp only [Act.put]
  have h0 : PbRel w L (.int .i64 0) (.slice none 0 0) v1 := ⟨⟨0, none, 0, by omega, rfl, rfl, own_nil _ _⟩, bel_2⟩
  clear rrv1 bel_2
  go_loopw [7, 3] (fun i v wr => PbRel w L i v wr) (fun i _ _ => 4 - (intOf i).toNat)
  case atStart => exact h0
  case round =>
    clear h0
    obtain ⟨⟨k, p, cap, hk, rfl, rfl, hO⟩, bel⟩ := hrel
    by_cases hlt : k < 4
    · have ik : (k : Int) < 4 := by omega
      have HLT := Lib.hid hlt
      have KB := Lib.hid (H4.out.at hlt)
      have HLN := Lib.hid (H4.out.take_len (k := k) (by omega))
      have HSN := Lib.hid (pathB_snoc (L := L) (k := k) (by have := H4.out.len; omega))
      go_wp2_with (first
        | ((with_reducible refine at_slot 9 ?_); (refine arm_want (.agg (u8s (L.getD k [])).toArray) 9 rfl (by kernel_rfl) (run_op_indexP H4.out _ _ rfl rfl k rfl HLT.out _) ?_); try simp only [Act.put, List.setIfInBounds_toArray, List.set_cons_zero, List.set_cons_succ])
        | ((with_reducible refine at_slot 5 ?_); (refine arm_alloc (o := ⟨some 5, _, _, _, _, _⟩) rfl _ rfl (u8s zh) zH ?_); intro G v101a Ge hGa nG; try simp only [Act.put, List.setIfInBounds_toArray, List.set_cons_zero, List.set_cons_succ])
        | ((with_reducible refine arm_store (o := ⟨none, _, _, _, _, _⟩) rfl _ _ _ rfl G 0 rfl (u8s (L.getD k [])) rfl _ _ hGa (fitH KB.out) (u8s_one _) (szH KB.out) ?_); intro v101 hGb oG sG; try simp only [Act.put, List.setIfInBounds_toArray, List.set_cons_zero, List.set_cons_succ])
        | ((with_reducible refine at_slot 11 ?_); (refine pause ?_); try simp only [Act.put, List.setIfInBounds_toArray, List.set_cons_zero, List.set_cons_succ]))
      have lG : wr.heap.size ≤ G := by have := Ge.out; omega
      have bG : Below wr.heap.size wr v101 := below_only nG.below oG lG nG.below.size
      have rrG : Row v101 G 24 (u8s (L.getD k [])) := hGb.congr (allH KB.out)
      have geG : w.heap.size ≤ G := Nat.le_trans bel.size lG
      clear hGa hGb nG oG sG Ge lG
      have O_102 : Own v101 w.heap.size p cap (pathB (L.take k)) := hO.below bG
      have bel_102 : Below w.heap.size w v101 := below_step bel bel.size bG
      clear hO bel bG
      refine go_on ?_
      go_wp2_with (first
        | ((with_reducible refine at_slot 11 ?_); (refine arm_want (.slice (some ⟨G, 0, none⟩) 32 32) 11 rfl (by kernel_rfl) (run_op_sliceAll _ _ rfl 32 5 (by kernel_rfl) (by kernel_rfl) G (0) rfl (by omega) _) ?_); try simp only [Act.put, List.setIfInBounds_toArray, List.set_cons_zero, List.set_cons_succ])
        | ((with_reducible refine at_slot 12 ?_); (refine arm_append (o := ⟨some 12, _, _, _, _, _⟩) rfl _ _ rfl w.heap.size _ _ _ (pathB (L.take k)) HLN.out.symm rfl O_102 (some ⟨G, 0, none⟩) 32 32 (L.getD k []) rfl KB.out.len.symm (fun h => by cases h) (fun _ => ⟨G, 0, rfl, (Has.refl _).range rrG⟩) (by rw [HLN.out, KB.out.len]; omega) bel_102.size ?_); intro p2 cap2 w2 hO2 hB2; try simp only [Act.put, List.setIfInBounds_toArray, List.set_cons_zero, List.set_cons_succ]))
      try simp only [Act.put]
      go_roundw
      case rel => exact ⟨⟨k + 1, p2, cap2, by omega, by go_num, rfl, HSN.out ▸ hO2⟩, bel_102.trans hB2⟩
      case measure => simp [intOf]; omega
    · obtain rfl : k = 4 := by omega
      have HX : Hid (L.take 4 = L) := Lib.hid (List.take_of_length_le (by have := H4.out.len; omega))
      rw [HX.out] at hO
      go_wp2_with fail
      go_ret
      exact ⟨⟨p, cap, rfl, hO.came (pathB_lt H4.out.ok)⟩, bel⟩
set_option maxHeartbeats 4000000 in
set_option maxRecDepth 100000 in
theorem rbytes16_any (L : List (List Nat)) (w : World) (h4 : P4 L) :
    Calls Try.prog 27 #[.agg (dgC L).toArray] w (BsPost w L) := by
  have H4 := Lib.hid h4
  clear h4
  go_enter Try.func27, Try.ntmps27
  go_wp2_with (first
    | ((with_reducible refine at_slot 1 ?_); (refine arm_box (o := ⟨some 1, _, _, _, _, _⟩) rfl _ _ rfl (dgC L) rfl ?_); intro Y v1 Ye hv1 nv1; try simp only [Act.put, List.setIfInBounds_toArray, List.set_cons_zero, List.set_cons_succ]))
  have hbv1 := nv1.below
  have rrv1 : Row v1 Y 39 (dgC L) := hv1
  have geY : w.heap.size ≤ Y := by have := Ye.out; omega
  clear hv1 nv1 Ye
  have bel_2 : Below w.heap.size w v1 := hbv1
  clear hbv1
  have nv2 := new_alloc v1 (Obj.cells #[] 5)
  have hv2 : Row (v1.alloc (Obj.cells #[] 5)) v1.heap.size 5 [] := heap_alloc_new _ _
  generalize v1.alloc (Obj.cells #[] 5) = v2 at nv2 hv2 ⊢
  obtain ⟨b2, be2⟩ : ∃ b, b = v1.heap.size := ⟨_, rfl⟩
  rw [← be2] at hv2 ⊢
  try simp only [Act.put]
  have zY := rrv1.lt
  obtain ⟨Z, hZ⟩ : ∃ Z, Z = v1.heap.size := ⟨_, rfl⟩
  have h0 : RbRel w Y Z L (.int .i64 0) (.slice (some ⟨b2, 0, none⟩) 0 0) v2 := ⟨⟨0, some ⟨b2, 0, none⟩, 0, by omega, rfl, rfl, own_new (show Row v2 b2 5 [] from hv2) (by omega)⟩, rrv1.old nv2.below, by have := nv2.size; omega, below_step bel_2 bel_2.size nv2.below⟩
  have HYZ : Y < Z := by omega
  have HWZ : w.heap.size ≤ Z := by have := bel_2.size; omega
  clear hv2 nv2 be2 zY hZ rrv1 bel_2
  go_loopw [4, 3] (fun i v wr => RbRel w Y Z L i v wr) (fun i _ _ => 4 - (intOf i).toNat)
  case atStart => exact h0
  case round =>
    clear h0
    obtain ⟨⟨k, p, cap, hk, rfl, rfl, hO⟩, hY, hZ, bel⟩ := hrel
    by_cases hlt : k < 4
    · have ik : (k : Int) < 4 := by omega
      have HLT := Lib.hid hlt
      have KB := Lib.hid (H4.out.at hlt)
      have HLN := Lib.hid (H4.out.take_len (k := k) (by omega))
      have HSN := Lib.hid (pathB_snoc (L := L) (k := k) (by have := H4.out.len; omega))
      have HRG : Hid (Has (dgC L) (k * 32) (u8s (L.getD k []))) := Lib.hid (by rw [Nat.mul_comm]; exact path_has H4.out.ok (H4.out.get hlt))
      go_wp2_with (first
        | ((with_reducible refine at_slot 13 ?_); (refine arm_want (.slice (some ⟨Y, k * 32, none⟩) 32 32) 13 rfl (by kernel_rfl) (run_op_sliceAll _ _ rfl 32 5 (by kernel_rfl) (by kernel_rfl) Y (k * 32) rfl (by omega) _) ?_); try simp only [Act.put, List.setIfInBounds_toArray, List.set_cons_zero, List.set_cons_succ])
        | ((with_reducible refine at_slot 14 ?_); (refine arm_append (o := ⟨some 14, _, _, _, _, _⟩) rfl _ _ rfl Z _ _ _ (pathB (L.take k)) HLN.out.symm rfl hO (some ⟨Y, k * 32, none⟩) 32 32 (L.getD k []) rfl KB.out.len.symm (fun h => by cases h) (fun _ => ⟨Y, k * 32, rfl, HRG.out.range hY⟩) (by rw [HLN.out, KB.out.len]; omega) hZ ?_); intro p2 cap2 w2 hO2 hB2; try simp only [Act.put, List.setIfInBounds_toArray, List.set_cons_zero, List.set_cons_succ]))
      try simp only [Act.put]
      go_roundw
      case rel => exact ⟨⟨k + 1, p2, cap2, by omega, by go_num, rfl, HSN.out ▸ hO2⟩, hY.below hB2 HYZ, Nat.le_trans hZ hB2.size, bel.trans (hB2.mono HWZ)⟩
      case measure => simp [intOf]; omega
    · obtain rfl : k = 4 := by omega
      have HX : Hid (L.take 4 = L) := Lib.hid (List.take_of_length_le (by have := H4.out.len; omega))
      rw [HX.out] at hO
      go_wp2_with fail
      go_ret
      exact ⟨⟨p, cap, rfl, hO.came (pathB_lt H4.out.ok)⟩, bel⟩
end Go.Proofs.Ytghogoijjaiccaa.Pf

/-
  The contracts of package proof's node.image and leafImage: the bytes that are digested on a way. Over this seat's translation.
-/
namespace Go.Proofs.Ytghogoijjaiccaa.Pf
open Go.ChangeShapes Go.WideShapes Go.ChangeAt Go.RowKit Go.Proofs.Ytghogoijjaiccaa.Mem Go.Proofs.Ytghogoijjaiccaa.Bt Go.Proofs.Ytghogoijjaiccaa.Wi Go.Proofs.Ytghogoijjaiccaa.Sha Go.Proofs.Ytghogoijjaiccaa.Ac Go.Proofs.Ytghogoijjaiccaa.Tr
open Go.Proofs.Ytghogoijjaiccaa.Tg (bytesOf bytesOf_length bytesOf_lt bytesOf_inj Rd Rd.below Parts tagD image)
open Go.Proofs.Ytghogoijjaiccaa.Ep (H32 zh zh_ok Has h_len szH zH fitH allH one_app)
set_option linter.unusedVariables false
set_option linter.unusedSimpArgs false

end Go.Proofs.Ytghogoijjaiccaa.Pf

/-
  The contract of package proof's Clash: of two claims that meet, the images at the first height at which the digests are the same. Over this seat's translation.
-/
namespace Go.Proofs.Ytghogoijjaiccaa.Pf
open Go.ChangeShapes Go.WideShapes Go.ChangeAt Go.RowKit Go.Proofs.Ytghogoijjaiccaa.Mem Go.Proofs.Ytghogoijjaiccaa.Bt Go.Proofs.Ytghogoijjaiccaa.Wi Go.Proofs.Ytghogoijjaiccaa.Sha Go.Proofs.Ytghogoijjaiccaa.Ac Go.Proofs.Ytghogoijjaiccaa.Tr
open Go.Proofs.Ytghogoijjaiccaa.Tg (bytesOf bytesOf_length bytesOf_lt bytesOf_inj Rd Rd.below Parts tagD image)
open Go.Proofs.Ytghogoijjaiccaa.Ep (H32 zh zh_ok Has h_len szH zH fitH allH one_app)
set_option linter.unusedVariables false
set_option linter.unusedSimpArgs false

end Go.Proofs.Ytghogoijjaiccaa.Pf
