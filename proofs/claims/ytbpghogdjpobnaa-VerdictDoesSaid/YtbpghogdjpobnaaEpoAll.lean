import Derived.Test.YtbpghogdjpobnaaNumAll
import Derived.Test.YtbpghogdjpobnaaMemAll
import Derived.BigQuiet
import Derived.Test.YtbpghogdjpobnaaBytAll
import Derived.Test.YtbpghogdjpobnaaShaAll
import Derived.Test.YtbpghogdjpobnaaFitAll
import Derived.Test.YtbpghogdjpobnaaTagAll
/-
  The contracts of some functions of packages slot and num over natural numbers, with what the walk needs of memory: nothing that was there changes ('Below'). Over this seat's translation.
-/
namespace Go.Proofs.Ytbpghogdjpobnaa.Slot
open Go.ChangeShapes Go.WideShapes Go.ChangeAt Go.RowKit Go.Proofs.Ytbpghogdjpobnaa.Mem
set_option linter.unusedVariables false

end Go.Proofs.Ytbpghogdjpobnaa.Slot

/-
  An epoch's data, pairs of them and blocks, as cells: what stands where, what a write leaves, how they are written out, '=='. Over this seat's translation.
-/
namespace Go.Proofs.Ytbpghogdjpobnaa.Ep
open Go.ChangeShapes Go.WideShapes Go.ChangeAt Go.RowKit Go.Proofs.Ytbpghogdjpobnaa.Mem Go.Proofs.Ytbpghogdjpobnaa.Bt Go.Proofs.Ytbpghogdjpobnaa.Sha
set_option linter.unusedVariables false
set_option linter.unusedSimpArgs false

/-- These cells stand at a place. -/
structure Has (cs : List Value) (o : Nat) (vs : List Value) : Prop where
  ex : ∃ p r, cs = p ++ (vs ++ r) ∧ p.length = o
theorem Has.refl (vs : List Value) : Has vs 0 vs := ⟨[], [], by simp, rfl⟩
theorem Has.left {cs a b : List Value} {o : Nat} (h : Has cs o (a ++ b)) : Has cs o a := by
  obtain ⟨p, r, e, hp⟩ := h.ex
  exact ⟨p, b ++ r, by rw [e, List.append_assoc], hp⟩
theorem Has.right {cs a b : List Value} {o : Nat} (h : Has cs o (a ++ b)) (n : Nat) (hn : a.length = n) : Has cs (o + n) b := by
  obtain ⟨p, r, e, hp⟩ := h.ex
  exact ⟨p ++ a, r, by rw [e]; simp only [List.append_assoc], by rw [List.length_append, hp, hn]⟩
theorem Has.head {cs b : List Value} {v : Value} {o : Nat} (h : Has cs o (v :: b)) : Has cs o [v] := Has.left (a := [v]) (b := b) h
theorem Has.tail {cs b : List Value} {v : Value} {o : Nat} (h : Has cs o (v :: b)) : Has cs (o + 1) b := Has.right (a := [v]) (b := b) h 1 rfl
theorem Has.get {cs : List Value} {o : Nat} {v : Value} (h : Has cs o [v]) : cs[o]? = some v := by
  obtain ⟨p, r, e, hp⟩ := h.ex
  rw [e, List.getElem?_append_right (by omega), hp, Nat.sub_self]
  rfl
theorem Has.range {w : World} {b o : Nat} {t : TypeId} {cs vs : List Value} (h : Has cs o vs) (hr : Row w b t cs) : w.rangeAt b o vs := hr.range o _ (fun j v hj => by
  obtain ⟨p, r, e, hp⟩ := h.ex
  rw [e, List.getElem?_append_right (by omega), hp, Nat.add_sub_cancel_left, List.getElem?_append_left (List.getElem?_eq_some_iff.1 hj).1]
  exact hj)
/-- A digest. -/
structure H32 (h : List Nat) : Prop where
  len : h.length = 32
  lt : AllLt 256 h
/-- The zero digest. -/
def zh : List Nat := List.replicate 32 0
theorem zh_ok : H32 zh := ⟨rfl, fun x hx => by have := List.eq_of_mem_replicate hx; omega⟩
/-- What is told of an epoch. -/
structure Dat where
  led : List Nat
  seed : List Nat
  start : List Nat
  lock : List Nat
  len : Nat
structure Dat.Ok (d : Dat) : Prop where
  led : H32 d.led
  seed : H32 d.seed
  start : H32 d.start
  lock : H32 d.lock
  len : d.len < 4294967296
/-- A block that follows. -/
structure Blk where
  fro : Nat
  to : Nat
  prev : List Nat
  led : List Nat
  draw : List Nat
structure Blk.Ok (b : Blk) : Prop where
  fro : b.fro < 4294967296
  to : b.to < 4294967296
  prev : H32 b.prev
  led : H32 b.led
  draw : H32 b.draw
theorem h_len {h : List Nat} (k : H32 h) : (u8s h).length = 32 := by rw [u8s_length, k.len]
theorem one_app {a b : List Value} (ha : OneCells a) (hb : OneCells b) : OneCells (a ++ b) := fun v hv => (List.mem_append.1 hv).elim (ha v) (hb v)
section
variable {cs : List Value} {o : Nat} {d : Dat}
end
section
variable {d : Dat} {x : List Nat} (k : d.Ok) (hx : H32 x) (r : List Value)
include k hx
end
theorem set_lay {cs : List Value} {o : Nat} {v : Value} (h : o < cs.length) : cs.set o v = lay cs o [v] := by
  rw [List.set_eq_take_append_cons_drop, if_pos h]
  simp [lay]
theorem szH {h : List Nat} (k : H32 h) : Sized Try.prog 32 (u8s h).length := by rw [h_len k]; exact sz25
def pplaces : Nat → Option (Nat × Nat) := fun i => (#[(0, 129), (129, 129)] : Array (Nat × Nat))[i]?
section
variable {d : Dat} {x : List Nat} (k : d.Ok) (hx : H32 x) (rest : List (Nat × Value))
include k hx
end
theorem Has.chunk {cs vs : List Value} {o n : Nat} (h : Has cs o vs) (hn : vs.length = n) : chunk cs o n = vs := by
  obtain ⟨p, r, e, hp⟩ := h.ex
  unfold Mem.chunk
  subst e hp hn
  rw [List.drop_left, List.take_left]
section
variable {o : Oper} {a : Act}
end
end Go.Proofs.Ytbpghogdjpobnaa.Ep

/-
  The contracts of what changes an epoch's data, and of what puts a block behind a pair (package epoch): a checkpoint that is moved, a later epoch's begin, one block more, a draw that counts. Over this seat's translation.
-/
namespace Go.Proofs.Ytbpghogdjpobnaa.Ep
open Go.ChangeShapes Go.WideShapes Go.ChangeAt Go.RowKit Go.Proofs.Ytbpghogdjpobnaa.Mem Go.Proofs.Ytbpghogdjpobnaa.Bt Go.Proofs.Ytbpghogdjpobnaa.Sha Go.Proofs.Ytbpghogdjpobnaa.Tg
set_option linter.unusedVariables false
set_option linter.unusedSimpArgs false

end Go.Proofs.Ytbpghogdjpobnaa.Ep

/-
  The contracts of package epoch: what puts a block behind a pair, First and Follow. Over this seat's translation.
-/
namespace Go.Proofs.Ytbpghogdjpobnaa.Ep
open Go.ChangeShapes Go.WideShapes Go.ChangeAt Go.RowKit Go.Proofs.Ytbpghogdjpobnaa.Mem Go.Proofs.Ytbpghogdjpobnaa.Bt Go.Proofs.Ytbpghogdjpobnaa.Sha Go.Proofs.Ytbpghogdjpobnaa.Tg
set_option linter.unusedVariables false
set_option linter.unusedSimpArgs false

/-- Whether the Length would not fit. -/
def overs (d : Dat) (b : Blk) : Prop := ¬ b.fro / 24 < b.to / 24 ∧ d.len = 4294967295
instance (d : Dat) (b : Blk) : Decidable (overs d b) := by unfold overs; exact inferInstance
end Go.Proofs.Ytbpghogdjpobnaa.Ep

/-
  The contracts of the document's answers for layer 8 (Seed, First, Follow) and of the law's 'own'. Over this seat's translation.
-/
namespace Go.Proofs.Ytbpghogdjpobnaa.Ep
open Go.ChangeShapes Go.WideShapes Go.ChangeAt Go.RowKit Go.Proofs.Ytbpghogdjpobnaa.Mem Go.Proofs.Ytbpghogdjpobnaa.Bt Go.Proofs.Ytbpghogdjpobnaa.Sha Go.Proofs.Ytbpghogdjpobnaa.Tg
set_option linter.unusedVariables false
set_option linter.unusedSimpArgs false

theorem zH : Mem.Zero Try.prog 32 (u8s zh) := z25
theorem fitH {h : List Nat} (k : H32 h) : 0 + (u8s h).length ≤ (u8s zh).length := by rw [h_len k, h_len zh_ok]; omega
theorem allH {h : List Nat} (k : H32 h) : lay (u8s zh) 0 (u8s h) = u8s h := lay_all _ _ (by rw [h_len k, h_len zh_ok])
end Go.Proofs.Ytbpghogdjpobnaa.Ep
