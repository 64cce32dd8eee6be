/-
  A chain over numbers and lists: the state behind blocks, how many came, what went wrong; what a child's numbers are. Over this seat's translation.
-/
import Derived.Test.YtphbpndjebfacaaDoorGroSpec
namespace Go.Proofs.YtphbpndjebfacaaDoor.Gr
open Go.ChangeShapes Go.WideShapes Go.ChangeAt Go.RowKit Go.Proofs.YtphbpndjebfacaaDoor.Mem Go.Proofs.YtphbpndjebfacaaDoor.Bt Go.Proofs.YtphbpndjebfacaaDoor.Rg Go.Proofs.YtphbpndjebfacaaDoor.Wn Go.Proofs.YtphbpndjebfacaaDoor.Sa
open Go.Proofs.YtphbpndjebfacaaDoor.Ep (H32 Dat Blk zh zh_ok num32 Has h_len one_app one_num szH overs)
set_option linter.unusedVariables false
set_option linter.unusedSimpArgs false

theorem chS_right {s : Sta} {b : Gb} (r : SRt s) (h : chE s b = 0) : SRt (chS s b) := by
  unfold chS
  rw [if_pos h]
  exact grown_right r (chE_zero.1 h)
structure Ns where
  slot : Nat
  len : Nat
  count : Nat
  min : Nat
  last : Nat
  counts : List Nat
  nlen : Nat
def nsOf (s : Sta) : Ns := ⟨s.slot, s.len, s.count, s.min, s.last, s.counts, s.next.len⟩
def FineN (n : Ns) (t : Nat) : Prop := n.slot < t ∧ n.len + 1 < 4294967296 ∧ n.count + entN n.slot t < 4294967296 ∧ (n.last ≤ t / 3 ∧ atG n.last n.counts ((t / 3 : Nat) : Int) < 3) ∧ ¬ (¬ n.slot / 24 < t / 24 ∧ n.nlen = 4294967295)
instance (n : Ns) (t : Nat) : Decidable (FineN n t) := by unfold FineN; infer_instance
def stepN (n : Ns) (t : Nat) : Ns := ⟨t, n.len + 1, n.count + entN n.slot t, relN n.min n.last n.counts t, t / 3, putd n.last n.counts (t / 3), if n.slot / 24 < t / 24 then 1 else n.nlen + 1⟩
theorem fine_of {s : Sta} {b : Gb} (h : FineN (nsOf s) b.slot) : Fine s b := ⟨h.1, h.2.1, h.2.2.1, h.2.2.2.1, h.2.2.2.2⟩
theorem ns_step {s : Sta} {b : Gb} (h : Fine s b) : nsOf (chS s b) = stepN (nsOf s) b.slot := by
  rw [chS_fine h, grown_fine h]
  unfold nsOf stepN
  simp only
  rw [nextF_len]
  rfl
theorem chE_slot {s : Sta} {b : Gb} (h : b.slot ≤ s.slot) : chE s b = 6 := by
  unfold chE errs
  rw [show behE s.slot b.slot = 6 from if_pos h]
  simp [firstE]
end Go.Proofs.YtphbpndjebfacaaDoor.Gr
