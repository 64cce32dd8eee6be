/-
  The document's tree (layer 15's reference) as cells: sixteen accounts, sixteen truths. Over this seat's translation.
-/
import Derived.Test.YtpebadhknpohkaaDoorTreNode
namespace Go.Proofs.YtpebadhknpohkaaDoor.Tr
open Go.ChangeShapes Go.WideShapes Go.ChangeAt Go.RowKit Go.Proofs.YtpebadhknpohkaaDoor.Mem Go.Proofs.YtpebadhknpohkaaDoor.Bt Go.Proofs.YtpebadhknpohkaaDoor.Ac Go.Proofs.YtpebadhknpohkaaDoor.Im
open Go.Proofs.YtpebadhknpohkaaDoor.Ep (H32 zh zh_ok Has h_len szH zH fitH allH)
set_option linter.unusedVariables false
set_option linter.unusedSimpArgs false

def asC (L : List Acct) : List Value := L.flatMap acs
theorem asC_cons (x : Acct) (L : List Acct) : asC (x :: L) = acs x ++ asC L := List.flatMap_cons
theorem asC_len : ∀ L : List Acct, (asC L).length = L.length * 3
  | [] => rfl
  | x :: L => by rw [asC_cons, List.length_append, acs_len, asC_len L, List.length_cons]; omega
theorem as_has : ∀ (L : List Acct) (post : List Value) (i : Nat) (a : Acct), L[i]? = some a → Has (asC L ++ post) (i * 3) (acs a)
  | [], post, i, a, hi => by simp at hi
  | x :: L, post, 0, a, hi => by
    simp only [List.getElem?_cons_zero, Option.some.injEq] at hi
    subst hi
    rw [asC_cons, List.append_assoc]
    exact (Has.refl _).left
  | x :: L, post, i + 1, a, hi => by
    obtain ⟨p, r, e, hp⟩ := (as_has L post i a (by simpa using hi)).ex
    rw [asC_cons, List.append_assoc, e]
    exact ⟨acs x ++ p, r, by simp only [List.append_assoc], by rw [List.length_append, acs_len, hp]; omega⟩
theorem as_lay : ∀ (L : List Acct) (post : List Value) (i : Nat) (a : Acct), i < L.length → lay (asC L ++ post) (i * 3) (acs a) = asC (L.set i a) ++ post
  | [], post, i, a, hi => by simp at hi
  | x :: L, post, 0, a, _ => by
    rw [asC_cons, List.set_cons_zero, asC_cons, List.append_assoc, Nat.zero_mul, lay_head _ _ _ (by rw [acs_len, acs_len]), List.append_assoc]
  | x :: L, post, i + 1, a, hi => by
    rw [asC_cons, List.set_cons_succ, asC_cons, List.append_assoc, show (i + 1) * 3 = 3 + i * 3 by omega, lay_skip _ _ _ (i * 3) (acs_len x), as_lay L post i a (by simpa using hi), List.append_assoc]
def rtcs (A : List Acct) (I : List Bool) : List Value := asC A ++ I.map Value.bool
def accs (t : Tree) : List Acct := (List.range 16).map fun i => (t i).getD za
def iss (t : Tree) : List Bool := (List.range 16).map fun i => (t i).isSome
theorem accs_len (t : Tree) : (accs t).length = 16 := by simp [accs]
theorem iss_len (t : Tree) : (iss t).length = 16 := by simp [iss]
theorem accs_get (t : Tree) {k : Nat} (h : k < 16) : (accs t)[k]? = some ((t k).getD za) := by simp [accs, h]
theorem iss_get (t : Tree) {k : Nat} (h : k < 16) : (iss t)[k]? = some (t k).isSome := by simp [iss, h]
theorem range_set {β : Type} {f g : Nat → β} {n k : Nat} {v : β} (hk : g k = v) (ho : ∀ i, i ≠ k → g i = f i) : ((List.range n).map f).set k v = (List.range n).map g := by
  apply List.ext_getElem?
  intro i
  rw [List.getElem?_set]
  by_cases e : k = i
  · subst e
    rw [if_pos rfl]
    by_cases hl : k < n
    · simp [hl, hk]
    · simp [hl]
  · rw [if_neg e]
    by_cases hl : i < n
    · simp [hl, ho i (Ne.symm e)]
    · simp [hl]
theorem accs_set (t : Tree) (k : Nat) (o : Option Acct) : (accs t).set k (o.getD za) = accs (setT t k o) :=
  range_set (by rw [set_here]) fun i hi => by rw [set_other hi]
theorem iss_set (t : Tree) (k : Nat) (o : Option Acct) : (iss t).set k o.isSome = iss (setT t k o) :=
  range_set (by rw [set_here]) fun i hi => by rw [set_other hi]
structure RAt (w : World) (C : Nat) (t : Tree) : Prop where
  row : Row w C 35 (rtcs (accs t) (iss t))
section
variable {w w' : World} {C : Nat} {t : Tree} {A : List Acct} {I : List Bool}
theorem RAt.lt (h : RAt w C t) : C < w.heap.size := h.row.lt
theorem RAt.old (h : RAt w C t) (hb : Below w.heap.size w w') : RAt w' C t := ⟨h.row.old hb⟩
theorem RAt.only {c : Nat} (h : RAt w C t) (ho : Only c w w') (h1 : C ≠ c) : RAt w' C t := ⟨h.row.only ho h1⟩
theorem rt_len (hA : A.length = 16) (hI : I.length = 16) : (rtcs A I).length = 64 := by unfold rtcs; rw [List.length_append, asC_len, hA, List.length_map, hI]
theorem rt_acc {k : Nat} {a : Acct} (h : A[k]? = some a) : Has (rtcs A I) (k * 3) (acs a) := as_has A _ k a h
theorem rt_is (hA : A.length = 16) {k : Nat} {b : Bool} (h : I[k]? = some b) : (rtcs A I)[48 + k]? = some (.bool b) := by
  unfold rtcs
  rw [List.getElem?_append_right (by rw [asC_len, hA]; omega), asC_len, hA, show 48 + k - 16 * 3 = k by omega, List.getElem?_map, h]
  rfl
theorem rt_lay {k : Nat} (a : Acct) (h : k < A.length) : lay (rtcs A I) (k * 3) (acs a) = rtcs (A.set k a) I := as_lay A _ k a h
theorem rt_set (hA : A.length = 16) (k : Nat) (b : Bool) : (rtcs A I).set (48 + k) (.bool b) = rtcs A (I.set k b) := by
  unfold rtcs
  rw [List.set_append_right _ _ (by rw [asC_len, hA]; omega), asC_len, hA, show 48 + k - 16 * 3 = k by omega, List.map_set]
theorem RAt.acc (h : RAt w C t) {k : Nat} (hk : k < 16) : w.rangeAt C (k * 3) (acs ((t k).getD za)) := (rt_acc (accs_get t hk)).range h.row
theorem RAt.is (h : RAt w C t) {k : Nat} (hk : k < 16) : w.cell? ⟨C, 48 + k, none⟩ = some (.bool (t k).isSome) := h.row.cell (rt_is (accs_len t) (iss_get t hk))
end
theorem built_rtree : Tryd.prog.built 35 [] = some (rtcs (accs bare) (iss bare)).toArray := by kernel_rfl
end Go.Proofs.YtpebadhknpohkaaDoor.Tr
