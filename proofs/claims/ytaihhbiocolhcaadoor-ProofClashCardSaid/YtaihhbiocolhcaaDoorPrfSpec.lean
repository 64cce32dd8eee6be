/-
  Paths that lead from a leaf's digest upwards, over lists: of a tree they lead to its nodes; two unlike accounts at one place and root are a clash of digests; a path of which one digest is another one leads elsewhere, or a clash is at hand; a path's bytes, and back. No program.
-/
import Derived.Test.YtaihhbiocolhcaaDoorTreAll
namespace Go.Proofs.YtaihhbiocolhcaaDoor.Pf
open Go.Proofs.YtaihhbiocolhcaaDoor.Bt Go.Proofs.YtaihhbiocolhcaaDoor.Ac Go.Proofs.YtaihhbiocolhcaaDoor.Tr
open Go.Proofs.YtaihhbiocolhcaaDoor.Sha (digest)
open Go.Proofs.YtaihhbiocolhcaaDoor.Tg (tagD tagD_len image image_inj bytesOf total)
open Go.Proofs.YtaihhbiocolhcaaDoor.Ep (H32)
set_option linter.unusedVariables false
set_option linter.unusedSimpArgs false

/-- What is joined at a height. -/
def partsK (p k : Nat) (d b : List Nat) : List (List Nat) := if p / 2 ^ k % 2 = 0 then [[k + 1], d, b] else [[k + 1], b, d]
/-- The digest so far. -/
def leadK (p : Nat) (L : List (List Nat)) (leaf : List Nat) : Nat → List Nat
  | 0 => leaf
  | k + 1 => tagD nameN (partsK p k (leadK p L leaf k) (L.getD k []))
theorem lead_succ (p : Nat) (L : List (List Nat)) (leaf : List Nat) (k : Nat) :
    leadK p L leaf (k + 1) = if p / 2 ^ k % 2 = 0 then joinD (k + 1) (leadK p L leaf k) (L.getD k []) else joinD (k + 1) (L.getD k []) (leadK p L leaf k) := by
  show tagD nameN (partsK p k (leadK p L leaf k) (L.getD k [])) = _
  unfold partsK joinD
  split <;> rfl
theorem lead_ok {p : Nat} {L : List (List Nat)} {leaf : List Nat} (h : H32 leaf) : ∀ k, H32 (leadK p L leaf k)
  | 0 => h
  | k + 1 => tag_ok _ _
/-- Of a tree each place's path leads to its nodes. -/
theorem lead_tree (t : Tree) (p : Nat) : ∀ k, k ≤ 4 → leadK p (pathD t p) (leafD t p) k = nodeD t k (p / 2 ^ k)
  | 0, _ => by rw [Nat.pow_zero, Nat.div_one]; rfl
  | k + 1, h => by
    have e : (pathD t p).getD k [] = besD t p k := by
      obtain rfl | rfl | rfl | rfl : k = 0 ∨ k = 1 ∨ k = 2 ∨ k = 3 := by omega
      all_goals rfl
    rw [lead_succ, node_step, lead_tree t p k (by omega), e]
theorem lead_root (t : Tree) {p : Nat} (h : p < 16) : leadK p (pathD t p) (leafD t p) 4 = rootD t := by
  rw [lead_tree t p 4 (by omega), node_top t h]
/-! ### Images on the way -/
def imgK (p : Nat) (L : List (List Nat)) (a : Acct) : Nat → List Nat
  | 0 => image (bytesOf nameA) [accB a]
  | k + 1 => image (bytesOf nameN) (partsK p k (leadK p L (digA a) k) (L.getD k []))
theorem parts_len (p k : Nat) (d b : List Nat) : (partsK p k d b).length = 3 := by
  unfold partsK
  split <;> rfl
theorem img_digest (p : Nat) (L : List (List Nat)) (a : Acct) : ∀ k, leadK p L (digA a) k = digest (imgK p L a k)
  | 0 => by
    show digA a = _
    unfold digA tagD
    rw [if_pos ⟨by decide, by simp⟩]
    rfl
  | k + 1 => by
    show tagD nameN _ = _
    unfold tagD
    rw [if_pos ⟨by decide, by rw [parts_len]; omega⟩]
    rfl
theorem parts_total {p k : Nat} {d b : List Nat} (hd : H32 d) (hb : H32 b) : total (partsK p k d b) = 65 := by
  unfold partsK
  split <;> simp [total, hd.len, hb.len]
theorem parts_inj {p k : Nat} {d b d' b' : List Nat} (h : partsK p k d b = partsK p k d' b') : d = d' ∧ b = b' := by
  unfold partsK at h
  split at h
  · simp only [List.cons.injEq, and_true, true_and] at h
    exact h
  · simp only [List.cons.injEq, and_true, true_and] at h
    exact ⟨h.2, h.1⟩
/-- The two images at a height are a clash. -/
def Clash (p : Nat) (L M : List (List Nat)) (a b : Acct) (i : Nat) : Prop := digest (imgK p L a i) = digest (imgK p M b i) ∧ imgK p L a i ≠ imgK p M b i
theorem getD_ok {L : List (List Nat)} (h : ∀ x ∈ L, H32 x) {k : Nat} (hk : k < L.length) : H32 (L.getD k []) := by
  rw [List.getD_eq_getElem?_getD, List.getElem?_eq_getElem hk]
  exact h _ (List.getElem_mem hk)
/-- Two unlike accounts that lead to one digest: a clash. -/
theorem clash_below {p : Nat} {L M : List (List Nat)} {a b : Acct} (hL : ∀ x ∈ L, H32 x) (hM : ∀ x ∈ M, H32 x) (lL : L.length = 4) (lM : M.length = 4) (ka : a.Ok) (kb : b.Ok) (ra : NRt a.nm) (rb : NRt b.nm) (hab : a ≠ b) :
    ∀ k, k ≤ 4 → leadK p L (digA a) k = leadK p M (digA b) k → ∃ i, i ≤ k ∧ Clash p L M a b i
  | 0, _, h => by
    refine ⟨0, Nat.le_refl _, by rw [← img_digest, ← img_digest]; exact h, fun e => hab ?_⟩
    have h1 := (image_inj (by simp [total, accB_len]; have := ra.2.1; omega) (by simp [total, accB_len]; have := rb.2.1; omega) e).2
    simp only [List.cons.injEq, and_true] at h1
    exact acc_inj ka kb ra rb h1
  | k + 1, hk, h => by
    by_cases he : imgK p L a (k + 1) = imgK p M b (k + 1)
    · have h1 := (image_inj (by rw [parts_total (lead_ok (digA_ok a) k) (getD_ok hL (by omega))]; omega) (by rw [parts_total (lead_ok (digA_ok b) k) (getD_ok hM (by omega))]; omega) he).2
      obtain ⟨i, hi, hc⟩ := clash_below hL hM lL lM ka kb ra rb hab k (by omega) (parts_inj h1).1
      exact ⟨i, by omega, hc⟩
    · exact ⟨k + 1, Nat.le_refl _, by rw [← img_digest, ← img_digest]; exact h, he⟩
/-- A path of which one digest is another one: elsewhere, or a clash is at hand. -/
theorem moved {p : Nat} {L M : List (List Nat)} {leaf : List Nat} {at_ : Nat} (ha : at_ < 4) (hne : L.getD at_ [] ≠ M.getD at_ []) (h : leadK p L leaf 4 = leadK p M leaf 4) :
    ∃ i, i < 4 ∧ leadK p L leaf (i + 1) = leadK p M leaf (i + 1) ∧ (leadK p L leaf i ≠ leadK p M leaf i ∨ L.getD i [] ≠ M.getD i []) := by
  false_or_by_contra
  rename_i hno
  have hall : ∀ k, k ≤ 4 → at_ < k → leadK p L leaf k ≠ leadK p M leaf k := by
    intro k
    induction k with
    | zero => intro _ h0; omega
    | succ k ih =>
      intro hk hak e
      by_cases hh : at_ = k
      · subst hh
        exact hno ⟨at_, ha, e, Or.inr hne⟩
      · exact hno ⟨k, by omega, e, Or.inl (ih (by omega) (by omega))⟩
  exact hall 4 (Nat.le_refl _) ha h
/-! ### Bytes -/
def pathB (L : List (List Nat)) : List Nat := L.flatten
def pathOf (b : List Nat) : List (List Nat) := [b.take 32, (b.drop 32).take 32, (b.drop 64).take 32, (b.drop 96).take 32]
theorem pathB_len : ∀ {L : List (List Nat)}, (∀ x ∈ L, H32 x) → (pathB L).length = L.length * 32
  | [], _ => rfl
  | x :: L, h => by
    show (x ++ pathB L).length = _
    rw [List.length_append, (h x (by simp)).len, pathB_len (fun y hy => h y (by simp [hy])), List.length_cons]
    omega
theorem path_back {L : List (List Nat)} (h : ∀ x ∈ L, H32 x) (hl : L.length = 4) : pathOf (pathB L) = L := by
  match L, hl with
  | [a, b, c, d], _ =>
    have ha := (h a (by simp)).len; have hb := (h b (by simp)).len; have hc := (h c (by simp)).len; have hd := (h d (by simp)).len
    have e : pathB [a, b, c, d] = a ++ (b ++ (c ++ (d ++ []))) := by simp [pathB]
    unfold pathOf
    rw [e]
    have e1 : (a ++ (b ++ (c ++ (d ++ [])))).drop 32 = b ++ (c ++ (d ++ [])) := by rw [← ha, List.drop_left]
    have e2 : (a ++ (b ++ (c ++ (d ++ [])))).drop 64 = c ++ (d ++ []) := by rw [show 64 = 32 + 32 from rfl, ← List.drop_drop, e1, ← hb, List.drop_left]
    have e3 : (a ++ (b ++ (c ++ (d ++ [])))).drop 96 = d ++ [] := by rw [show 96 = 64 + 32 from rfl, ← List.drop_drop, e2, ← hc, List.drop_left]
    have t1 : ∀ (x y : List Nat), x.length = 32 → (x ++ y).take 32 = x := fun x y hx => by rw [← hx, List.take_left]
    rw [e1, e2, e3, t1 a _ ha, t1 b _ hb, t1 c _ hc, t1 d _ hd]
theorem bytes_path {b : List Nat} (h : b.length = 128) : pathB (pathOf b) = b := by
  unfold pathB pathOf
  simp only [List.flatten_cons, List.flatten_nil, List.append_nil]
  have e3 : (b.drop 96).take 32 = b.drop 96 := List.take_of_length_le (by rw [List.length_drop]; omega)
  have s : ∀ n, (b.drop n).take 32 ++ b.drop (n + 32) = b.drop n := fun n => by rw [← List.drop_drop]; exact List.take_append_drop 32 (b.drop n)
  rw [e3]
  have s2 := s 64; have s1 := s 32; have s0 := s 0
  simp only [Nat.reduceAdd, Nat.zero_add, List.drop_zero] at s0 s1 s2
  rw [s2, s1, s0]
theorem pathOf_ok {b : List Nat} (hl : AllLt 256 b) (h : b.length = 128) : ∀ x ∈ pathOf b, H32 x := by
  intro x hx
  simp only [pathOf, List.mem_cons, List.not_mem_nil, or_false] at hx
  have key : ∀ n, n + 32 ≤ 128 → H32 ((b.drop n).take 32) := fun n hn => ⟨by rw [List.length_take, List.length_drop]; omega, fun y hy => hl y (List.mem_of_mem_drop (List.mem_of_mem_take hy))⟩
  rcases hx with rfl | rfl | rfl | rfl
  · exact key 0 (by omega)
  · exact key 32 (by omega)
  · exact key 64 (by omega)
  · exact key 96 (by omega)
end Go.Proofs.YtaihhbiocolhcaaDoor.Pf
