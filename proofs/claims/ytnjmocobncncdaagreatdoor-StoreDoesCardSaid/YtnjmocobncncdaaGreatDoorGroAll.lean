import Derived.Test.YtnjmocobncncdaaGreatDoorStaMade
import Derived.Test.YtnjmocobncncdaaGreatDoorStaReads
import Derived.Test.YtnjmocobncncdaaGreatDoorMemAll
import Derived.Deep.Slices
import Derived.Test.YtnjmocobncncdaaGreatDoorEpoAll
import Derived.Test.YtnjmocobncncdaaGreatDoorStaLeaf
import Derived.Test.YtnjmocobncncdaaGreatDoorStaDo
import Derived.Test.YtnjmocobncncdaaGreatDoorWinAll
/-
  Blocks of package grow as cells; how they are written out; those that came in, opened. Over this seat's translation.
-/
namespace Go.Proofs.YtnjmocobncncdaaGreatDoor.Gr
open Go.ChangeShapes Go.WideShapes Go.ChangeAt Go.RowKit Go.Proofs.YtnjmocobncncdaaGreatDoor.Mem Go.Proofs.YtnjmocobncncdaaGreatDoor.Bt Go.Proofs.YtnjmocobncncdaaGreatDoor.Tg
open Go.Proofs.YtnjmocobncncdaaGreatDoor.Ep (H32 zh zh_ok num32 Has h_len one_app one_num szH c_num c_hash)
set_option linter.unusedVariables false
set_option linter.unusedSimpArgs false

/-- What makes a child: a block. -/
structure Gb where
  slot : Nat
  led : List Nat
  draw : List Nat
structure Gb.Ok (b : Gb) : Prop where
  slot : b.slot < 4294967296
  led : H32 b.led
  draw : H32 b.draw
def gcs (b : Gb) : List Value := num32 b.slot :: (u8s b.led ++ u8s b.draw)
def zg : Gb := ⟨0, zh, zh⟩
instance : Inhabited Gb := ⟨zg⟩
def AllG (l : List Gb) : Prop := ∀ b ∈ l, b.Ok
theorem AllG.get {l : List Gb} (h : AllG l) {k : Nat} {b : Gb} (hk : l[k]? = some b) : b.Ok := h b (List.mem_of_getElem? hk)
section
variable {cs : List Value} {o : Nat}
theorem g_slot {b : Gb} (h : Has cs o (gcs b)) : Has cs o [num32 b.slot] := h.head
theorem g_led {b : Gb} (h : Has cs o (gcs b)) : Has cs (o + 1) (u8s b.led) := h.tail.left
end
theorem g0 (b : Gb) : Has (gcs b) 0 [num32 b.slot] := g_slot (Has.refl _)
theorem g1 (b : Gb) : Has (gcs b) 1 (u8s b.led) := g_led (Has.refl _)
structure Gbs (w : World) (p : Option Addr) (l : List Gb) : Prop where
  at_ : ∀ k b, l[k]? = some b → ∃ g o, p = some ⟨g, o, none⟩ ∧ g < w.heap.size ∧ w.rangeAt g (o + k * 65) (gcs b)
  ok : AllG l
theorem Gbs.below {w w' : World} {p : Option Addr} {l : List Gb} (h : Gbs w p l) (hb : Below w.heap.size w w') : Gbs w' p l :=
  ⟨fun k b hk => by
    obtain ⟨g, o, e, hg, hr⟩ := h.at_ k b hk
    exact ⟨g, o, e, Nat.lt_of_lt_of_le hg hb.size, range_block hr (hb.block g hg)⟩, h.ok⟩
section
variable {H : Type} {enc : TypeId × Value → H} {w : World} {base : Nat} {spare : Nat → Bool} {held : Bool} {fuel : Nat} {cs : List Value} {x : DataW H × List MemPlace}
end
end Go.Proofs.YtnjmocobncncdaaGreatDoor.Gr

/-
  The contracts of package grow's small functions: sums that fit, whether an epoch comes in, whether a slot is behind, the first error. Over this seat's translation.
-/
namespace Go.Proofs.YtnjmocobncncdaaGreatDoor.Gr
open Go.ChangeShapes Go.WideShapes Go.ChangeAt Go.RowKit Go.Proofs.YtnjmocobncncdaaGreatDoor.Mem Go.Proofs.YtnjmocobncncdaaGreatDoor.Bt
set_option linter.unusedVariables false
set_option linter.unusedSimpArgs false

/-- A sum that fits, or 0; what is wrong with one that doesn't fit. -/
def addV (a b : Nat) : Nat := if a + b < 4294967296 then a + b else 0
/-- How many epochs come in. -/
def entN (a b : Nat) : Nat := if a / 24 < b / 24 then 1 else 0
end Go.Proofs.YtnjmocobncncdaaGreatDoor.Gr

/-
  What a child is, over numbers and lists: its errors in order, the state; a child of a state that is right is right. Over this seat's translation.
-/
namespace Go.Proofs.YtnjmocobncncdaaGreatDoor.Gr
open Go.ChangeShapes Go.WideShapes Go.ChangeAt Go.RowKit Go.Proofs.YtnjmocobncncdaaGreatDoor.Mem Go.Proofs.YtnjmocobncncdaaGreatDoor.Bt Go.Proofs.YtnjmocobncncdaaGreatDoor.Rg Go.Proofs.YtnjmocobncncdaaGreatDoor.Wn Go.Proofs.YtnjmocobncncdaaGreatDoor.Sa
open Go.Proofs.YtnjmocobncncdaaGreatDoor.Ep (H32 Dat Blk zh zh_ok num32 Has h_len one_app one_num szH ansC ansN overs nowF nextF)
set_option linter.unusedVariables false
set_option linter.unusedSimpArgs false

/-- The block as package epoch is told of it. -/
def blkOf (s : Sta) (b : Gb) : Blk := ⟨s.slot, b.slot, digS s, s.led, b.draw⟩
/-- The child, if nothing goes wrong. -/
def grown (s : Sta) (b : Gb) : Sta := ⟨digS s, b.led, b.draw, b.slot, addV s.len 1, addV s.count (entN s.slot b.slot), putM s.min s.last s.counts b.slot, putL s.last s.counts (b.slot / 3), putC s.last s.counts (b.slot / 3), ansC s.now s.next (blkOf s b), ansN s.next (blkOf s b)⟩
section
variable {ops : Array Oper} {rest : List Oper} {o : Oper} {a : Act} {w : World} {Q : Exit → Act → World → Prop}
end
end Go.Proofs.YtnjmocobncncdaaGreatDoor.Gr

/-
  A chain over numbers and lists: the state behind blocks, how many came, what went wrong; what a child's numbers are. Over this seat's translation.
-/
namespace Go.Proofs.YtnjmocobncncdaaGreatDoor.Gr
open Go.ChangeShapes Go.WideShapes Go.ChangeAt Go.RowKit Go.Proofs.YtnjmocobncncdaaGreatDoor.Mem Go.Proofs.YtnjmocobncncdaaGreatDoor.Bt Go.Proofs.YtnjmocobncncdaaGreatDoor.Rg Go.Proofs.YtnjmocobncncdaaGreatDoor.Wn Go.Proofs.YtnjmocobncncdaaGreatDoor.Sa
open Go.Proofs.YtnjmocobncncdaaGreatDoor.Ep (H32 Dat Blk zh zh_ok num32 Has h_len one_app one_num szH overs)
set_option linter.unusedVariables false
set_option linter.unusedSimpArgs false

structure Ns where
  slot : Nat
  len : Nat
  count : Nat
  min : Nat
  last : Nat
  counts : List Nat
  nlen : Nat
def FineN (n : Ns) (t : Nat) : Prop := n.slot < t ∧ n.len + 1 < 4294967296 ∧ n.count + entN n.slot t < 4294967296 ∧ (n.last ≤ t / 3 ∧ atG n.last n.counts ((t / 3 : Nat) : Int) < 3) ∧ ¬ (¬ n.slot / 24 < t / 24 ∧ n.nlen = 4294967295)
instance (n : Ns) (t : Nat) : Decidable (FineN n t) := by unfold FineN; infer_instance
end Go.Proofs.YtnjmocobncncdaaGreatDoor.Gr

/-
  The contract of package grow's Child. Over this seat's translation.
-/
namespace Go.Proofs.YtnjmocobncncdaaGreatDoor.Gr
open Go.ChangeShapes Go.WideShapes Go.ChangeAt Go.RowKit Go.Proofs.YtnjmocobncncdaaGreatDoor.Mem Go.Proofs.YtnjmocobncncdaaGreatDoor.Bt Go.Proofs.YtnjmocobncncdaaGreatDoor.Rg Go.Proofs.YtnjmocobncncdaaGreatDoor.Wn Go.Proofs.YtnjmocobncncdaaGreatDoor.Sa Go.Proofs.YtnjmocobncncdaaGreatDoor.Sha
open Go.Proofs.YtnjmocobncncdaaGreatDoor.Ep (H32 Dat Blk zh zh_ok num32 zd zd_ok Has h_len one_app one_num szH zH fitH allH ansC ansN)
set_option linter.unusedVariables false
set_option linter.unusedSimpArgs false

end Go.Proofs.YtnjmocobncncdaaGreatDoor.Gr
