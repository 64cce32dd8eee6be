/-
  Bytes and numbers of 32 bits as cells; slices of bytes that the call makes itself (append, make, literals), or that came in. Over this seat's translation.
-/
import Derived.Test.YtbbmjjphkmjnbaaRows
import Derived.Test.YtbbmjjphkmjnbaaMem
import Derived.Laws.AppendOwnNone
import Derived.Deep.OwnRows
import Derived.ProofKit
import Derived.OpenShut
namespace Go.Proofs.Ytbbmjjphkmjnbaa.Bt
open Go.ChangeShapes Go.WideShapes Go.ChangeAt Go.RowKit Go.Proofs.Ytbbmjjphkmjnbaa.Mem
set_option linter.unusedVariables false

/-- Bytes, numbers of 32 bits, as cells. -/
def u8s (l : List Nat) : List Value := l.map fun n : Nat => .int .u8 (n : Int)
def u32s (l : List Nat) : List Value := l.map fun n : Nat => .int .u32 (n : Int)
theorem u8s_length (l : List Nat) : (u8s l).length = l.length := List.length_map _
theorem u32s_length (l : List Nat) : (u32s l).length = l.length := List.length_map _
theorem u8s_append (l m : List Nat) : u8s (l ++ m) = u8s l ++ u8s m := List.map_append
theorem u32s_append (l m : List Nat) : u32s (l ++ m) = u32s l ++ u32s m := List.map_append
theorem u8s_get {l : List Nat} {i : Nat} (h : i < l.length) : (u8s l)[i]? = some (.int .u8 ((l.getD i 0 : Nat) : Int)) := by simp [u8s, h]
theorem u32s_get {l : List Nat} {i : Nat} (h : i < l.length) : (u32s l)[i]? = some (.int .u32 ((l.getD i 0 : Nat) : Int)) := by simp [u32s, h]
theorem u8s_one (l : List Nat) : OneCells (u8s l) := by intro v hv; simp [u8s] at hv; obtain ⟨n, _, rfl⟩ := hv; rfl
theorem u32s_one (l : List Nat) : OneCells (u32s l) := by intro v hv; simp [u32s] at hv; obtain ⟨n, _, rfl⟩ := hv; rfl

/-- All below a bound. -/
def AllLt (n : Nat) (l : List Nat) : Prop := ∀ x ∈ l, x < n
theorem getD_lt {n : Nat} {l : List Nat} (h : AllLt n l) (hn : 0 < n) (i : Nat) : l.getD i 0 < n := by
  by_cases hi : i < l.length
  · rw [List.getD_eq_getElem?_getD, List.getElem?_eq_getElem hi]; exact h _ (List.getElem_mem hi)
  · rw [List.getD_eq_getElem?_getD, List.getElem?_eq_none (by omega)]; exact hn
theorem append_lt {n : Nat} {l m : List Nat} (h : AllLt n l) (g : AllLt n m) : AllLt n (l ++ m) := fun x hx => by
  rcases List.mem_append.1 hx with h1 | h1
  · exact h x h1
  · exact g x h1
theorem set_get (cs : List Value) (v : Value) (i : Nat) (h : i < cs.length) : (cs.set i v)[i]? = some v := by simp [h]
theorem lay_u8s (A B : List Nat) (o : Nat) : lay (u8s A) o (u8s B) = u8s (A.take o ++ B ++ A.drop (o + B.length)) := by
  unfold lay
  rw [u8s_length, u8s_append, u8s_append]
  unfold u8s
  rw [List.map_take, List.map_drop]
theorem info5 : (Try.prog.info? 5).map (fun i => (i.zero, i.size, i.bytes)) = some (some (.int .u8 0), 1, 1) := by kernel_rfl
/-- A slice that the call made itself, of these bytes. -/
structure Own (w : World) (base : Nat) (p : Option Addr) (cap : Nat) (bs : List Nat) : Prop where
  own : w.ownsRow base 5 1 (.slice p bs.length cap) bs.length (u8s bs)
theorem Own.of_slice {w : World} {base : Nat} {v : Value} {bs : List Nat} (h : w.ownsRow base 5 1 v bs.length (u8s bs)) : ∃ p cap, v = .slice p bs.length cap ∧ Own w base p cap bs := by
  rcases h.2 with ⟨hv, hn⟩ | ⟨g, cap, cur, hv, _⟩
  · exact ⟨none, 0, by rw [hv, hn], ⟨by rw [← show v = .slice none bs.length 0 from by rw [hv, hn]]; exact h⟩⟩
  · exact ⟨_, _, hv, ⟨by rw [← hv]; exact h⟩⟩
/-- What it gives: its address, where there is a byte. -/
theorem Own.at {w : World} {base : Nat} {p : Option Addr} {cap : Nat} {bs : List Nat} (h : Own w base p cap bs) : bs.length ≤ cap ∧ (bs ≠ [] → ∃ g o, p = some ⟨g, o, none⟩ ∧ base ≤ g ∧ w.rangeAt g o (u8s bs)) := by
  rcases h.own.2 with ⟨hv, hn⟩ | ⟨g, cap', cur, hv, hg, hh, hc, _, hs, ht⟩
  · refine ⟨by omega, fun hne => absurd (List.eq_nil_of_length_eq_zero hn) hne⟩
  · obtain ⟨rfl, -, rfl⟩ : p = some ⟨g, 0, none⟩ ∧ bs.length = bs.length ∧ cap = cap' := by simpa using hv
    refine ⟨hc, fun _ => ⟨g, 0, rfl, hg, fun j v hj => ?_⟩⟩
    rw [Nat.mul_one] at ht
    rw [Nat.zero_add]
    have hj2 := (List.getElem?_eq_some_iff.1 hj).1
    rw [← ht, List.getElem?_take] at hj
    split at hj
    · simp only [World.cell?, hh]
      simpa using hj
    · cases hj
theorem Own.below {w w' : World} {base : Nat} {p : Option Addr} {cap : Nat} {bs : List Nat} (h : Own w base p cap bs) (hb : Below w.heap.size w w') : Own w' base p cap bs := by
  refine ⟨h.own.1, ?_⟩
  rcases h.own.2 with h2 | ⟨g, cap', cur, hv, hg, hh, r⟩
  · exact .inl h2
  · exact .inr ⟨g, cap', cur, hv, hg, by rw [hb.block g (Array.getElem?_eq_some_iff.1 hh).1]; exact hh, r⟩
section
variable {ops : Array Oper} {rest : List Oper} {o : Oper} {a : Act} {w : World} {Q : Exit → Act → World → Prop}
end
/-- A new slice without bytes. -/
theorem own_new {w2 : World} {b base : Nat} (hr : Row w2 b 5 []) (hb : base ≤ b) : Own w2 base (some ⟨b, 0, none⟩) 0 [] :=
  ⟨rfl, .inr ⟨b, 0, #[], rfl, hb, hr, Nat.le_refl _, by unfold maxLen; omega, rfl, rfl⟩⟩
theorem Own.only {w w' : World} {base B : Nat} {p : Option Addr} {cap : Nat} {bs : List Nat} (h : Own w base p cap bs) (ho : Only B w w') (hB : B < base) : Own w' base p cap bs := by
  refine ⟨h.own.1, ?_⟩
  rcases h.own.2 with h2 | ⟨g, cap', cur, hv, hg, hh, r⟩
  · exact .inl h2
  · exact .inr ⟨g, cap', cur, hv, hg, by rw [ho.block g (Array.getElem?_eq_some_iff.1 hh).1 (by omega)]; exact hh, r⟩
theorem own_nil (w : World) (base : Nat) : Own w base none 0 [] := ⟨rfl, .inl ⟨rfl, rfl⟩⟩
theorem Own.bytes {w : World} {base : Nat} {p : Option Addr} {cap : Nat} {bs : List Nat} (h : Own w base p cap bs) : bs ≠ [] → ∃ g o, p = some ⟨g, o, none⟩ ∧ w.rangeAt g o (u8s bs) := fun hne => by
  obtain ⟨g, o, e, _, hr⟩ := h.at.2 hne
  exact ⟨g, o, e, hr⟩
section
variable {ops : Array Oper} {rest : List Oper} {o : Oper} {a : Act} {w : World} {Q : Exit → Act → World → Prop}
theorem made_u8s (n : Nat) : madeCells #[.int .u8 0] n = (u8s (List.replicate n 0)).toArray := by
  apply Array.ext_getElem?
  intro i
  by_cases hi : i < n
  · have h := u8s_get (l := List.replicate n 0) (i := i) (by simpa using hi)
    have e : (u8s (List.replicate n 0)).toArray[i]? = (u8s (List.replicate n 0))[i]? := by simp
    rw [e, h]
    simp [madeCells, hi, Nat.mod_one]
  · rw [Array.getElem?_eq_none (by rw [size_madeCells]; omega), Array.getElem?_eq_none (by simp [u8s_length]; omega)]
end
section
variable {o : Oper} {a : Act}
/-- One byte is read. -/
theorem run_op_load8 (x : Operand) (ho : o.op = .load 5 x) (p : Addr) (hx : a.eval x = .pointer (some p)) (v : Value) {w : World} (hc : w.cell? p = some v) : (execOp a.eval o).run Try.prog w = .ok (.value v) w := by
  have hu : Try.prog.underlying 5 = some (.int .u8) := by kernel_rfl
  unfold execOp
  simp [ho, hx, Instr.loadAt, Instr.sureAddr, loadVar, isAgg, run_underlying hu, hc]
end
/-- A slice of bytes that came in. -/
structure Came (w : World) (p : Option Addr) (cap : Nat) (bs : List Nat) : Prop where
  cap_ : bs.length ≤ cap
  nil_ : p = none → cap = 0
  at_ : bs ≠ [] → ∃ g o, p = some ⟨g, o, none⟩ ∧ w.rangeAt g o (u8s bs)
  lt_ : AllLt 256 bs
  max_ : cap ≤ maxLen
end Go.Proofs.Ytbbmjjphkmjnbaa.Bt
