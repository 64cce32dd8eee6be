/-
  What is written and read, over numbers and lists: bytes of a number, things and their bytes, a reader's state; what is written is read, what is cut goes wrong. No program.
-/
namespace Go.Proofs.Yticdapgfjkhoaaa.Wi
set_option linter.unusedVariables false

/-- A number as so many bytes, the highest first. -/
def put : Nat → Nat → List Nat
  | _, 0 => []
  | n, k + 1 => put (n / 256) k ++ [n % 256]
theorem put_length : ∀ k n, (put n k).length = k
  | 0, _ => rfl
  | k + 1, n => by simp [put, put_length k]
theorem put_lt : ∀ k n, ∀ x ∈ put n k, x < 256
  | 0, _ => by simp [put]
  | k + 1, n => by
    intro x hx
    rcases List.mem_append.1 hx with h | h
    · exact put_lt k _ x h
    · simp at h; omega
theorem put_cons : ∀ k n, put n (k + 1) = (n / 256 ^ k % 256) :: put n k
  | 0, n => by simp [put]
  | k + 1, n => by
    have h := put_cons k (n / 256)
    rw [put, h, List.cons_append, show put (n / 256) k ++ [n % 256] = put n (k + 1) from rfl, Nat.div_div_eq_div_mul, Nat.pow_succ, Nat.mul_comm]
theorem put_drop : ∀ s n k, k ≤ s → (put n s).drop k = put n (s - k)
  | 0, n, k, h => by obtain rfl : k = 0 := by omega
                     rfl
  | s + 1, n, 0, h => rfl
  | s + 1, n, k + 1, h => by rw [put_cons, List.drop_succ_cons, put_drop s n k (by omega), show s + 1 - (k + 1) = s - k by omega]
theorem put_take (s n k : Nat) (h : k < s) : (put n s).take (k + 1) = (put n s).take k ++ [n / 256 ^ (s - 1 - k) % 256] := by
  have hl := put_length s n
  have hd := put_drop s n k (by omega)
  obtain ⟨j, hj⟩ : ∃ j, s - k = j + 1 := ⟨s - k - 1, by omega⟩
  rw [hj, put_cons] at hd
  have hg : (put n s)[k]? = some (n / 256 ^ j % 256) := by
    have := congrArg (fun l => l[0]?) hd
    simpa [List.getElem?_drop] using this
  rw [List.take_add_one, hg, show s - 1 - k = j by omega]
  rfl
theorem put_mod : ∀ k n, put (n % 256 ^ k) k = put n k
  | 0, n => rfl
  | k + 1, n => by
    have h1 : n % 256 ^ (k + 1) / 256 = n / 256 % 256 ^ k := by rw [Nat.pow_succ, Nat.mul_comm, Nat.mod_mul_right_div_self]
    have h2 : n % 256 ^ (k + 1) % 256 = n % 256 := by rw [Nat.pow_succ]; exact Nat.mod_mul_left_mod _ _ _
    rw [put, put, h1, h2, put_mod k (n / 256)]
/-- The number of some bytes. -/
def numOf (l : List Nat) : Nat := l.foldl (fun a b => a * 256 + b) 0
theorem numOf_snoc (l : List Nat) (b : Nat) : numOf (l ++ [b]) = numOf l * 256 + b := by simp [numOf]
theorem numOf_put : ∀ k n, numOf (put n k) = n % 256 ^ k
  | 0, n => by simp [put, numOf, Nat.mod_one]
  | k + 1, n => by
    rw [put, numOf_snoc, numOf_put k, Nat.pow_succ, Nat.mul_comm (256 ^ k) 256, Nat.mod_mul, Nat.mul_comm]
    omega
theorem fold_lt : ∀ (l : List Nat) (a : Nat), (∀ x ∈ l, x < 256) → l.foldl (fun a b => a * 256 + b) a < (a + 1) * 256 ^ l.length
  | [], a, _ => by simp
  | b :: l, a, h => by
    have h1 := fold_lt l (a * 256 + b) (fun x hx => h x (by simp [hx]))
    have h2 := h b (by simp)
    have h3 : (a * 256 + b + 1) * 256 ^ l.length ≤ (a + 1) * 256 * 256 ^ l.length := Nat.mul_le_mul_right _ (by omega)
    rw [List.foldl_cons, List.length_cons, Nat.pow_succ, Nat.mul_comm (256 ^ l.length) 256, ← Nat.mul_assoc]
    omega
theorem numOf_lt (l : List Nat) (h : ∀ x ∈ l, x < 256) : numOf l < 256 ^ l.length := by
  have := fold_lt l 0 h
  simpa [numOf] using this
theorem take_snoc (l : List Nat) (k : Nat) (h : k < l.length) : l.take (k + 1) = l.take k ++ [l.getD k 0] := by
  rw [List.take_add_one, List.getElem?_eq_getElem h]
  simp [List.getD_eq_getElem?_getD, List.getElem?_eq_getElem h]

/-- A text's bytes, if it may be. -/
def txt (b : List Nat) : List Nat := if b.length ≤ 255 then b.length :: b else []
/-- A reader's state: the bytes that are left, and what went wrong. -/
abbrev RS := List Nat × Nat
def failed (e c : Nat) : Nat := if e = 0 then c else e
def takeR (k : Nat) (s : RS) : List Nat × RS := if k ≤ s.1.length then (s.1.take k, (s.1.drop k, s.2)) else ([], ([], failed s.2 3))
def numR (k : Nat) (s : RS) : Nat × RS := (numOf (takeR k s).1, (takeR k s).2)
def hashR (s : RS) : List Nat × RS := (if 32 ≤ s.1.length then s.1.take 32 else List.replicate 32 0, (takeR 32 s).2)
def textR (m : Int) (s : RS) : List Nat × RS := if m < ((numR 1 s).1 : Int) then ([], ([], failed (numR 1 s).2.2 4)) else takeR (numR 1 s).1 (numR 1 s).2
def endR (s : RS) : Nat := if s.2 ≠ 0 then s.2 else if s.1 = [] then 0 else 4
end Go.Proofs.Yticdapgfjkhoaaa.Wi
