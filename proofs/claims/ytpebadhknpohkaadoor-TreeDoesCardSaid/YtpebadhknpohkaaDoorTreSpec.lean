/-
  A tree of accounts over functions and lists: nodes, the root, paths; a path leads to the root; what a node hangs on. No program.
-/
import Derived.Test.YtpebadhknpohkaaDoorAccAll
namespace Go.Proofs.YtpebadhknpohkaaDoor.Tr
open Go.Proofs.YtpebadhknpohkaaDoor.Bt Go.Proofs.YtpebadhknpohkaaDoor.Ac
open Go.Proofs.YtpebadhknpohkaaDoor.Tg (tagD tagD_len)
open Go.Proofs.YtpebadhknpohkaaDoor.Ep (H32)
set_option linter.unusedVariables false
set_option linter.unusedSimpArgs false

/-- The name 'node'. -/
def nameN : ByteArray := ⟨#[110, 111, 100, 101]⟩
/-- Each place's account. -/
abbrev Tree := Nat → Option Acct
def bare : Tree := fun _ => none
def leafD (t : Tree) (i : Nat) : List Nat := match t i with
  | some a => digA a
  | none => digE
def joinD (h : Nat) (l r : List Nat) : List Nat := tagD nameN [[h], l, r]
def nodeD (t : Tree) : Nat → Nat → List Nat
  | 0, i => leafD t i
  | h + 1, i => joinD (h + 1) (nodeD t h (2 * i)) (nodeD t h (2 * i + 1))
theorem node_succ (t : Tree) (h i : Nat) : nodeD t (h + 1) i = joinD (h + 1) (nodeD t h (2 * i)) (nodeD t h (2 * i + 1)) := rfl
def rootD (t : Tree) : List Nat := nodeD t 4 0
/-- The node beside. -/
def sib (i : Nat) : Nat := if i % 2 = 0 then i + 1 else i - 1
def besD (t : Tree) (p h : Nat) : List Nat := nodeD t h (sib (p / 2 ^ h))
def pathD (t : Tree) (p : Nat) : List (List Nat) := [besD t p 0, besD t p 1, besD t p 2, besD t p 3]
def setT (t : Tree) (p : Nat) (o : Option Acct) : Tree := fun i => if i = p then o else t i
theorem join_ok (h : Nat) (l r : List Nat) : H32 (joinD h l r) := tag_ok _ _
theorem leaf_ok (t : Tree) (i : Nat) : H32 (leafD t i) := by
  unfold leafD
  split
  · exact digA_ok _
  · exact digE_ok
theorem node_ok (t : Tree) : ∀ h i, H32 (nodeD t h i)
  | 0, i => leaf_ok t i
  | h + 1, i => join_ok _ _ _
theorem root_ok (t : Tree) : H32 (rootD t) := node_ok t 4 0
theorem bes_ok (t : Tree) (p h : Nat) : H32 (besD t p h) := node_ok t h _
/-- A node is made of the way's node and the one beside it. -/
theorem node_step (t : Tree) (p h : Nat) :
    nodeD t (h + 1) (p / 2 ^ (h + 1)) = if p / 2 ^ h % 2 = 0 then joinD (h + 1) (nodeD t h (p / 2 ^ h)) (besD t p h) else joinD (h + 1) (besD t p h) (nodeD t h (p / 2 ^ h)) := by
  have e : p / 2 ^ (h + 1) = p / 2 ^ h / 2 := by rw [Nat.pow_succ, Nat.div_div_eq_div_mul]
  unfold besD sib
  rw [e]
  generalize p / 2 ^ h = q
  rw [node_succ]
  by_cases hq : q % 2 = 0
  · rw [if_pos hq, if_pos hq, show 2 * (q / 2) = q by omega]
  · rw [if_neg hq, if_neg hq, show 2 * (q / 2) + 1 = q by omega, show 2 * (q / 2) = q - 1 by omega]
theorem node_top (t : Tree) {p : Nat} (h : p < 16) : nodeD t 4 (p / 2 ^ 4) = rootD t := by
  rw [show p / 2 ^ 4 = 0 from Nat.div_eq_of_lt h]
  rfl
/-- A node hangs on the places under it alone. -/
theorem node_congr {t u : Tree} : ∀ h i, (∀ j, j / 2 ^ h = i → t j = u j) → nodeD t h i = nodeD u h i
  | 0, i, hj => by
    unfold nodeD leafD
    rw [hj i (by simp)]
  | h + 1, i, hj => by
    have e : ∀ j, j / 2 ^ (h + 1) = j / 2 ^ h / 2 := fun j => by rw [Nat.pow_succ, Nat.div_div_eq_div_mul]
    rw [node_succ, node_succ, node_congr h (2 * i) (fun j k => hj j (by rw [e, k]; omega)), node_congr h (2 * i + 1) (fun j k => hj j (by rw [e, k]; omega))]
theorem sib_ne (i : Nat) : sib i ≠ i := by unfold sib; split <;> omega
theorem sib_lt {i n : Nat} (h : i < 2 * n) : sib i < 2 * n := by unfold sib; split <;> omega
/-- Its own path stays. -/
theorem bes_alone {t u : Tree} {p : Nat} (hj : ∀ j, j ≠ p → t j = u j) (h : Nat) : besD t p h = besD u p h :=
  node_congr h _ (fun j k => hj j (fun e => by subst e; exact sib_ne _ k.symm))
theorem path_alone {t u : Tree} {p : Nat} (hj : ∀ j, j ≠ p → t j = u j) : pathD t p = pathD u p := by
  unfold pathD
  rw [bes_alone hj, bes_alone hj, bes_alone hj, bes_alone hj]
theorem root_congr {t u : Tree} (h : ∀ j, j < 16 → t j = u j) : rootD t = rootD u :=
  node_congr 4 0 (fun j k => h j (by
    rcases Nat.lt_or_ge j 16 with g | g
    · exact g
    · have := Nat.div_pos g (by decide : 0 < 2 ^ 4)
      omega))
theorem set_same {t : Tree} {p : Nat} (h : t p = none) : setT t p none = t := by
  funext i
  unfold setT
  split
  · rename_i e; rw [e, h]
  · rfl
theorem set_other {t : Tree} {p i : Nat} {o : Option Acct} (h : i ≠ p) : setT t p o i = t i := if_neg h
theorem set_here (t : Tree) (p : Nat) (o : Option Acct) : setT t p o p = o := if_pos rfl
end Go.Proofs.YtpebadhknpohkaaDoor.Tr
