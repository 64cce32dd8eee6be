/-
  The contracts of the document's num, data, Bytes and Hash of layer 9, and of its One of layer 3, over this seat's translation.
-/
import Derived.Test.YtffpifljeeikfaaDoorStaDo
import Derived.Test.YtffpifljeeikfaaDoorStaRRead
import Derived.Test.YtffpifljeeikfaaDoorStaSpec
import Derived.Test.YtffpifljeeikfaaDoorWireRefAll
import Derived.Test.YtffpifljeeikfaaDoorBytAll
namespace Go.Proofs.YtffpifljeeikfaaDoor.Sa
open Go.ChangeShapes Go.WideShapes Go.ChangeAt Go.RowKit Go.Proofs.YtffpifljeeikfaaDoor.Mem Go.Proofs.YtffpifljeeikfaaDoor.Bt Go.Proofs.YtffpifljeeikfaaDoor.Wi Go.Proofs.YtffpifljeeikfaaDoor.Tg Go.Proofs.YtffpifljeeikfaaDoor.Sha Go.Proofs.YtffpifljeeikfaaDoor.Rg
open Go.Proofs.YtffpifljeeikfaaDoor.Ep (H32 Dat zh zh_ok num32 dcs dcs_len dcs_one zd zd_ok Has h_len one_app one_num szH sz_rdat d_led d_seed d_start d_lock d_len zH fitH allH)
set_option linter.unusedVariables false
set_option linter.unusedSimpArgs false

/-- A slice of bytes that the call makes. -/
structure SPost (w : World) (n : Nat) (bs : List Nat) (e : Ending) (w' : World) : Prop where
  ex : ∃ p cap, e = .returned (.slice p n cap) ∧ Bt.Own w' w.heap.size p cap bs
  bel : Below w.heap.size w w'
theorem own_hq {w : World} {base c : Nat} {q : Option Addr} {bs : List Nat} (h : Bt.Own w base q c bs) (n : Nat) (hn : n = bs.length) : q = none → n = 0 ∧ c = 0 := fun e => by
  have := own_none h e
  exact ⟨by omega, this.2⟩
/-- An epoch's data's bytes. -/
def datB (d : Dat) : List Nat := [] ++ d.led ++ d.seed ++ d.start ++ d.lock ++ put d.len 4
theorem datB_len {d : Dat} (k : d.Ok) : (datB d).length = 132 := by
  unfold datB
  simp only [List.length_append, List.length_nil, k.led.len, k.seed.len, k.start.len, k.lock.len, put_length]
/-! ### A state's. -/
theorem boff_num {j : Nat} (h : j ≤ 9) : boff (3 + j) = 96 + 4 * j := by
  have e : j = 0 ∨ j = 1 ∨ j = 2 ∨ j = 3 ∨ j = 4 ∨ j = 5 ∨ j = 6 ∨ j = 7 ∨ j = 8 ∨ j = 9 := by omega
  rcases e with rfl | rfl | rfl | rfl | rfl | rfl | rfl | rfl | rfl | rfl <;> rfl
theorem num_not {j : Nat} (h : j < 9) : isH (3 + j) = false := by
  have e : j = 0 ∨ j = 1 ∨ j = 2 ∨ j = 3 ∨ j = 4 ∨ j = 5 ∨ j = 6 ∨ j = 7 ∨ j = 8 := by omega
  rcases e with rfl | rfl | rfl | rfl | rfl | rfl | rfl | rfl | rfl <;> rfl
def numsS (s : Sta) : List Nat := (List.range 9).map fun t => nF s (3 + t)
theorem numsS_eq (s : Sta) : numsS s = [nF s 3, nF s 4, nF s 5, nF s 6, nF s 7, nF s 8, nF s 9, nF s 10, nF s 11] := rfl
theorem numsS_get (s : Sta) {j : Nat} (h : j < 9) : (u32s (numsS s))[j]? = some (.int .u32 ((nF s (3 + j) : Nat) : Int)) := by
  unfold u32s numsS
  rw [List.getElem?_map, List.getElem?_map, List.getElem?_range h]
  rfl
theorem bP3 (s : Sta) : [] ++ s.prev ++ s.led ++ s.draw = bP s 3 := by simp [bP, fB, isH, hF]
theorem bP17 (s : Sta) : bP s 12 ++ datB s.now = bP s 17 := by
  have h : ∀ i, bP s (i + 1) = bP s i ++ fB s i := fun i => rfl
  rw [h 16, h 15, h 14, h 13, h 12]
  simp [fB, isH, hF, nF, datB]
theorem bP22 (s : Sta) : bP s 17 ++ datB s.next = staB s := by
  have h : ∀ i, bP s (i + 1) = bP s i ++ fB s i := fun i => rfl
  unfold staB
  rw [h 21, h 20, h 19, h 18, h 17]
  simp [fB, isH, hF, nF, datB]
theorem nine32 (n0 n1 n2 n3 n4 n5 n6 n7 n8 : Int) (w : World) : (Instr.buildSlice 160 9 #[(0, .int .u32 n0), (1, .int .u32 n1), (2, .int .u32 n2), (3, .int .u32 n3), (4, .int .u32 n4), (5, .int .u32 n5), (6, .int .u32 n6), (7, .int .u32 n7), (8, .int .u32 n8)]).run Tryd.prog w = .ok (.slice (some ⟨w.heap.size, 0, none⟩) 9 9) (w.alloc (.cells #[.int .u32 n0, .int .u32 n1, .int .u32 n2, .int .u32 n3, .int .u32 n4, .int .u32 n5, .int .u32 n6, .int .u32 n7, .int .u32 n8] 24)) := by kernel_rfl
section
variable {ops : Array Oper} {rest : List Oper} {o : Oper} {a : Act} {w : World} {Q : Exit → Act → World → Prop}
theorem arm_build32 (hgd : o.guard = none) (n : Nat) (parts : Array (Nat × Operand)) (ho : o.op = .buildSlice 160 n parts) (vs : List Value) (pv : Array (Nat × Value)) (hpv : (parts.map fun (i, x) => (i, a.eval x)) = pv)
    (hr : ∀ w : World, (Instr.buildSlice 160 n pv).run Tryd.prog w = .ok (.slice (some ⟨w.heap.size, 0, none⟩) n n) (w.alloc (.cells vs.toArray 24)))
    (h : ∀ b w2, Hid (b = w.heap.size) → Row w2 b 24 vs → New w w2 → wpList Tryd.prog ops Q rest (a.put o.dst (.slice (some ⟨b, 0, none⟩) n n)) w2) : wpList Tryd.prog ops Q (o :: rest) a w := by
  refine wpList_plain hgd fun K hK => ?_
  unfold Oper.wp execOp
  simp only [ho, hpv, Sem.run_bind, hr w, Result.andThen_ok, Sem.run_pure]
  exact hK _ _ (h _ _ rfl (heap_alloc_new _ _) (new_alloc _ _))
end
/-- What holds while the numbers are laid. -/
structure LbRel (w : World) (S N base : Nat) (s : Sta) (i v : Value) (wr : World) : Prop where
  ex : ∃ j : Nat, j ≤ 9 ∧ i = .int .i64 j ∧ ∃ p cap, v = .slice p (96 + 4 * j) cap ∧ Bt.Own wr base p cap (bP s (3 + j))
  nums : Row wr N 24 (u32s (numsS s))
  sta : Row wr S 66 (scs s)
  bel : Below w.heap.size w wr
  low : base ≤ wr.heap.size
end Go.Proofs.YtffpifljeeikfaaDoor.Sa
