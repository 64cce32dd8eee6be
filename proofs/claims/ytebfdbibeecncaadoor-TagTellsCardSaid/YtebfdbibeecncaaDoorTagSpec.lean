/-
  The image of a name and parts, over lists of numbers; unlike names, or parts, have unlike images.
-/
import Derived.Test.YtebfdbibeecncaaDoorBytes
namespace Go.Proofs.YtebfdbibeecncaaDoor.Tg
open Go.Proofs.YtebfdbibeecncaaDoor.Bt

/-- A number's four bytes, the highest first. -/
def four (n : Nat) : List Nat := [n / 16777216 % 256, n / 65536 % 256, n / 256 % 256, n % 256]
def imgs : List (List Nat) → List Nat
  | [] => []
  | b :: r => four b.length ++ (b ++ imgs r)
/-- The image. -/
def image (name : List Nat) (parts : List (List Nat)) : List Nat := [name.length] ++ name ++ [parts.length] ++ imgs parts
def total : List (List Nat) → Nat
  | [] => 0
  | b :: r => b.length + total r
theorem imgs_append : ∀ l m : List (List Nat), imgs (l ++ m) = imgs l ++ imgs m
  | [], m => rfl
  | b :: r, m => by simp [imgs, imgs_append r m]
theorem total_append : ∀ l m : List (List Nat), total (l ++ m) = total l + total m
  | [], m => by simp [total]
  | b :: r, m => by simp [total, total_append r m]; omega
theorem four_length (n : Nat) : (four n).length = 4 := rfl
theorem four_lt (n : Nat) : AllLt 256 (four n) := by intro x hx; simp [four] at hx; omega
theorem imgs_length : ∀ l : List (List Nat), (imgs l).length = 4 * l.length + total l
  | [] => rfl
  | b :: r => by simp [imgs, four_length, imgs_length r, total]; omega
theorem imgs_lt : ∀ l : List (List Nat), (∀ b ∈ l, AllLt 256 b) → AllLt 256 (imgs l)
  | [], _ => by intro x hx; cases hx
  | b :: r, h => append_lt (four_lt _) (append_lt (h b (by simp)) (imgs_lt r fun c hc => h c (by simp [hc])))
theorem image_length (name : List Nat) (parts : List (List Nat)) : (image name parts).length = 2 + name.length + 4 * parts.length + total parts := by
  simp [image, imgs_length]; omega
theorem image_lt (name : List Nat) (parts : List (List Nat)) (hn : name.length ≤ 255) (hp : parts.length ≤ 255) (h1 : AllLt 256 name) (h2 : ∀ b ∈ parts, AllLt 256 b) : AllLt 256 (image name parts) := by
  refine append_lt (append_lt (append_lt ?_ h1) ?_) (imgs_lt _ h2)
  · intro x hx; simp at hx; omega
  · intro x hx; simp at hx; omega
theorem take_snoc (l : List (List Nat)) (k : Nat) (h : k < l.length) : l.take (k + 1) = l.take k ++ [l.getD k []] := by
  rw [List.take_add_one, List.getElem?_eq_getElem h]
  simp [List.getD_eq_getElem?_getD, List.getElem?_eq_getElem h]
theorem total_take_le (l : List (List Nat)) (k : Nat) : total (l.take k) ≤ total l := by
  have := total_append (l.take k) (l.drop k)
  rw [List.take_append_drop] at this
  omega
theorem total_snoc (l : List (List Nat)) (k : Nat) (h : k < l.length) : total (l.take (k + 1)) = total (l.take k) + (l.getD k []).length := by
  rw [take_snoc l k h, total_append]; simp [total]
theorem imgs_snoc (l : List (List Nat)) (k : Nat) (h : k < l.length) : imgs (l.take (k + 1)) = imgs (l.take k) ++ four (l.getD k []).length ++ l.getD k [] := by
  rw [take_snoc l k h, imgs_append]; simp [imgs]
theorem four_inj {m n : Nat} (hm : m < 4294967296) (hn : n < 4294967296) (h : four m = four n) : m = n := by
  simp only [four, List.cons.injEq, and_true] at h
  omega
theorem len_of_total : ∀ (l : List (List Nat)) (b : List Nat), b ∈ l → b.length ≤ total l
  | c :: r, b, h => by
    rcases List.mem_cons.1 h with rfl | h
    · simp [total]
    · have := len_of_total r b h; simp only [total]; omega
theorem imgs_inj : ∀ (l m : List (List Nat)), l.length = m.length → total l < 4294967296 → total m < 4294967296 → imgs l = imgs m → l = m
  | [], [], _, _, _, _ => rfl
  | [], c :: m, h, _, _, _ => by simp at h
  | b :: l, [], h, _, _, _ => by simp at h
  | b :: l, c :: m, h, h1, h2, he => by
    simp only [imgs] at he
    obtain ⟨e1, e2⟩ := List.append_inj he (by rw [four_length, four_length])
    simp only [total] at h1 h2
    have hl := four_inj (by omega) (by omega) e1
    obtain ⟨e3, e4⟩ := List.append_inj e2 hl
    have := imgs_inj l m (by simpa using h) (by omega) (by omega) e4
    rw [e3, this]
/-- Unlike names, or parts, have unlike images. -/
theorem image_inj {a b : List Nat} {l m : List (List Nat)} (h1 : total l < 4294967296) (h2 : total m < 4294967296) (h : image a l = image b m) : a = b ∧ l = m := by
  unfold image at h
  simp only [List.append_assoc, List.cons_append, List.nil_append, List.cons.injEq] at h
  obtain ⟨e1, e2⟩ := h
  obtain ⟨e3, e4⟩ := List.append_inj e2 e1
  simp only [List.cons.injEq] at e4
  exact ⟨e3, imgs_inj l m e4.1 h1 h2 e4.2⟩
/-- A text's bytes. -/
def bytesOf (s : ByteArray) : List Nat := s.data.toList.map fun b => b.toNat
theorem bytesOf_length (s : ByteArray) : (bytesOf s).length = s.size := by simp [bytesOf]
theorem bytesOf_lt (s : ByteArray) : AllLt 256 (bytesOf s) := by
  intro x hx
  simp only [bytesOf, List.mem_map] at hx
  obtain ⟨b, _, rfl⟩ := hx
  exact b.toNat_lt
theorem bytesOf_inj {s t : ByteArray} (h : bytesOf s = bytesOf t) : s = t := by
  obtain ⟨⟨x⟩⟩ := s
  obtain ⟨⟨y⟩⟩ := t
  have : x = y := by
    simp only [bytesOf] at h
    exact (List.map_inj_right (fun a b hab => UInt8.toNat_inj.1 hab)).1 h
  rw [this]
end Go.Proofs.YtebfdbibeecncaaDoor.Tg
