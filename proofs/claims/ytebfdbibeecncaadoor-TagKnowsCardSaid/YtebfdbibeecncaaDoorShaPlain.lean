/-
  Plain facts on bytes that are taken block by block: what is written in parts is what is written at once; what stands behind the bytes. No program, no world.
-/
import Derived.Test.YtebfdbibeecncaaDoorShaMixed
namespace Go.Proofs.YtebfdbibeecncaaDoor.Sha
open Go.RowKit Go.Proofs.YtebfdbibeecncaaDoor.Mem Go.Proofs.YtebfdbibeecncaaDoor.Bt
set_option linter.unusedVariables false

theorem fold64_more (n : Nat) : ∀ (s : S8) (l c : List Nat), 64 * n ≤ l.length → fold64 n s (l ++ c) = fold64 n s l := by
  induction n with
  | zero => intros; rfl
  | succ n ih =>
    intro s l c h
    show fold64 n (comp s ((l ++ c).take 64)) ((l ++ c).drop 64) = fold64 n (comp s (l.take 64)) (l.drop 64)
    rw [List.take_append_of_le_length (by omega), List.drop_append_of_le_length (by omega)]
    exact ih _ _ _ (by rw [List.length_drop]; omega)
theorem fold64_snoc (n : Nat) : ∀ (s : S8) (l : List Nat), fold64 (n + 1) s l = comp (fold64 n s l) ((l.drop (64 * n)).take 64) := by
  induction n with
  | zero => intro s l; rfl
  | succ n ih =>
    intro s l
    show fold64 (n + 1) (comp s (l.take 64)) (l.drop 64) = comp (fold64 n (comp s (l.take 64)) (l.drop 64)) _
    rw [ih, List.drop_drop]
    congr 3
    omega
theorem fold64_bd (n : Nat) : ∀ (s : S8) (l : List Nat), Bd s → Bd (fold64 n s l) := by
  induction n with
  | zero => intro s l h; exact h
  | succ n ih => intro s l h; exact ih _ _ (comp_bd _ _)
theorem stOf_bd (l : List Nat) : Bd (stOf l) := fold64_bd _ _ _ H0_bd
theorem leftOf_len (l : List Nat) : (leftOf l).length = l.length % 64 := by unfold leftOf; rw [List.length_drop]; omega
theorem leftOf_lt {l : List Nat} (h : AllLt 256 l) : AllLt 256 (leftOf l) := fun x hx => h x (List.mem_of_mem_drop hx)
theorem keep_st (l c : List Nat) (h : l.length % 64 + c.length < 64) : stOf (l ++ c) = stOf l := by
  unfold stOf
  rw [List.length_append, show (l.length + c.length) / 64 = l.length / 64 from by omega, fold64_more _ _ _ _ (by omega)]
theorem keep_left (l c : List Nat) (h : l.length % 64 + c.length < 64) : leftOf (l ++ c) = leftOf l ++ c := by
  unfold leftOf
  rw [List.length_append, show (l.length + c.length) / 64 = l.length / 64 from by omega, List.drop_append_of_le_length (by omega)]
theorem full_st (l c : List Nat) (h : l.length % 64 + c.length = 64) : stOf (l ++ c) = comp (stOf l) (leftOf l ++ c) := by
  unfold stOf leftOf
  rw [List.length_append, show (l.length + c.length) / 64 = l.length / 64 + 1 from by omega, fold64_snoc, fold64_more _ _ _ _ (by omega), List.drop_append_of_le_length (by omega), List.take_of_length_le (by rw [List.length_append, List.length_drop]; omega)]
theorem full_left (l c : List Nat) (h : l.length % 64 + c.length = 64) : leftOf (l ++ c) = [] := by
  unfold leftOf
  rw [List.length_append, show 64 * ((l.length + c.length) / 64) = l.length + c.length from by omega, ← List.length_append, List.drop_length]

/-- The 64 places of the bytes behind the last whole block. -/
def leftCells (l : List Nat) : List Nat := leftOf l ++ List.replicate (64 - l.length % 64) 0
theorem leftCells_len (l : List Nat) : (leftCells l).length = 64 := by unfold leftCells; rw [List.length_append, leftOf_len, List.length_replicate]; omega
/-- A hasher's cells behind the bytes l. -/
def hcells (l : List Nat) : List Value := u32s (stOf l).list ++ (u8s (leftCells l) ++ [.int .u64 (l.length : Int)])
theorem hcells_len (l : List Nat) : (hcells l).length = 73 := by unfold hcells; simp [u32s_length, u8s_length, leftCells_len, list_len]
theorem hcells_count (l : List Nat) : (hcells l)[72]? = some (.int .u64 (l.length : Int)) := by
  unfold hcells
  rw [List.getElem?_append_right (by rw [u32s_length, list_len]; omega), u32s_length, list_len, List.getElem?_append_right (by rw [u8s_length, leftCells_len]; omega), u8s_length, leftCells_len]
  rfl
theorem hcells_words (l : List Nat) (j : Nat) (v : Value) (h : (u32s (stOf l).list)[j]? = some v) : (hcells l)[0 + j]? = some v := by
  have hj := (List.getElem?_eq_some_iff.1 h).1
  rw [Nat.zero_add]; unfold hcells
  rw [List.getElem?_append_left hj]; exact h
/-- Cells laid over the places of the bytes that are left. -/
theorem lay_left (l c : List Nat) (h : l.length % 64 + c.length ≤ 64) : lay (hcells l) (8 + l.length % 64) (u8s c) = u32s (stOf l).list ++ (u8s (leftOf l ++ c ++ List.replicate (64 - (l.length % 64 + c.length)) 0) ++ [.int .u64 (l.length : Int)]) := by
  have hw : (u32s (stOf l).list).length = 8 := by rw [u32s_length, list_len]
  have hl : (u8s (leftOf l)).length = l.length % 64 := by rw [u8s_length, leftOf_len]
  unfold lay hcells leftCells
  rw [u8s_length, List.take_append, List.drop_append, hw]
  rw [List.take_of_length_le (by rw [hw]; omega), List.drop_eq_nil_of_le (by rw [hw]; omega)]
  rw [show 8 + l.length % 64 - 8 = l.length % 64 from by omega, show 8 + l.length % 64 + c.length - 8 = l.length % 64 + c.length from by omega]
  rw [u8s_append, List.append_assoc (u8s (leftOf l)), List.take_append_of_le_length (by rw [hl]; omega), List.take_of_length_le (by rw [hl]; omega)]
  rw [List.drop_append, hl, List.drop_eq_nil_of_le (by rw [hl]; omega), show l.length % 64 + c.length - l.length % 64 = c.length from by omega]
  rw [List.drop_append_of_le_length (by rw [u8s_length, List.length_replicate]; omega)]
  have hd : (u8s (List.replicate (64 - l.length % 64) 0)).drop c.length = u8s (List.replicate (64 - (l.length % 64 + c.length)) 0) := by
    unfold u8s; rw [← List.map_drop, List.drop_replicate]; congr 2; omega
  rw [hd, u8s_append, u8s_append]
  simp
theorem set_count (A B : List Value) (x y : Value) (hA : A.length = 8) (hB : B.length = 64) : (A ++ (B ++ [x])).set 72 y = A ++ (B ++ [y]) := by
  rw [List.set_append_right _ _ (by omega), hA, List.set_append_right _ _ (by omega), hB]; rfl
theorem mid_len (l c : List Nat) (h : l.length % 64 + c.length ≤ 64) : (leftOf l ++ c ++ List.replicate (64 - (l.length % 64 + c.length)) 0).length = 64 := by
  rw [List.length_append, List.length_append, leftOf_len, List.length_replicate]; omega
/-- Less than a block: the bytes lie there. -/
theorem hc_keep (l c : List Nat) (h : l.length % 64 + c.length < 64) : (lay (hcells l) (8 + l.length % 64) (u8s c)).set 72 (.int .u64 ((l.length : Int) + (c.length : Int))) = hcells (l ++ c) := by
  rw [lay_left l c (by omega), set_count _ _ _ _ (by rw [u32s_length, list_len]) (by rw [u8s_length, mid_len l c (by omega)])]
  unfold hcells leftCells
  rw [keep_st l c h, keep_left l c h, List.length_append, show (l.length + c.length) % 64 = l.length % 64 + c.length from by omega]
  simp
/-- A whole block lies there. -/
def hmid (l c : List Nat) : List Value := u32s (stOf l).list ++ (u8s (leftOf l ++ c) ++ [.int .u64 ((l.length : Int) + (c.length : Int))])
theorem hc_mid (l c : List Nat) (h : l.length % 64 + c.length = 64) : (lay (hcells l) (8 + l.length % 64) (u8s c)).set 72 (.int .u64 ((l.length : Int) + (c.length : Int))) = hmid l c := by
  rw [lay_left l c (by omega), set_count _ _ _ _ (by rw [u32s_length, list_len]) (by rw [u8s_length, mid_len l c (by omega)])]
  unfold hmid
  rw [h]; simp
theorem hmid_len (l c : List Nat) (h : l.length % 64 + c.length = 64) : (hmid l c).length = 73 := by unfold hmid; simp [u32s_length, u8s_length, leftOf_len, list_len]; omega
theorem hmid_words (l c : List Nat) (j : Nat) (v : Value) (h : (u32s (stOf l).list)[j]? = some v) : (hmid l c)[0 + j]? = some v := by
  have hj := (List.getElem?_eq_some_iff.1 h).1
  rw [Nat.zero_add]; unfold hmid
  rw [List.getElem?_append_left hj]; exact h
theorem hmid_left (l c : List Nat) (j : Nat) (v : Value) (h : (u8s (leftOf l ++ c))[j]? = some v) : (hmid l c)[8 + j]? = some v := by
  have hj := (List.getElem?_eq_some_iff.1 h).1
  unfold hmid
  rw [List.getElem?_append_right (by rw [u32s_length, list_len]; omega), u32s_length, list_len, show 8 + j - 8 = j from by omega, List.getElem?_append_left hj]; exact h
theorem hc_full (l c : List Nat) (h : l.length % 64 + c.length = 64) : lay (lay (hmid l c) 0 (u32s (comp (stOf l) (leftOf l ++ c)).list)) 8 (u8s (List.replicate 64 0)) = hcells (l ++ c) := by
  have e1 : lay (hmid l c) 0 (u32s (comp (stOf l) (leftOf l ++ c)).list) = u32s (comp (stOf l) (leftOf l ++ c)).list ++ (u8s (leftOf l ++ c) ++ [.int .u64 ((l.length : Int) + (c.length : Int))]) := by
    unfold lay hmid
    rw [List.take_zero, List.nil_append, u32s_length, list_len, List.drop_append_of_le_length (by rw [u32s_length, list_len]; omega), List.drop_eq_nil_of_le (by rw [u32s_length, list_len]; omega), List.nil_append]
  have h8 : (u32s (comp (stOf l) (leftOf l ++ c)).list).length = 8 := by rw [u32s_length, list_len]
  have h64 : (u8s (leftOf l ++ c)).length = 64 := by rw [u8s_length, List.length_append, leftOf_len]; exact h
  rw [e1]
  unfold lay hcells leftCells
  rw [full_st l c h, full_left l c h, List.length_append, show (l.length + c.length) % 64 = 0 from by omega]
  rw [List.take_append_of_le_length (by omega), List.take_of_length_le (by omega), u8s_length, List.length_replicate, List.drop_append, h8, List.drop_eq_nil_of_le (by omega), show 8 + 64 - 8 = 64 from rfl, List.drop_append_of_le_length (by omega), List.drop_eq_nil_of_le (by omega)]
  simp
theorem lay_count (l c : List Nat) (h : l.length % 64 + c.length ≤ 64) : (lay (hcells l) (8 + l.length % 64) (u8s c))[72]? = some (.int .u64 (l.length : Int)) := by
  rw [lay_left l c h, List.getElem?_append_right (by rw [u32s_length, list_len]; omega), u32s_length, list_len, List.getElem?_append_right (by rw [u8s_length, mid_len l c h]; omega), u8s_length, mid_len l c h]
  rfl
theorem lay_len (l c : List Nat) (h : l.length % 64 + c.length ≤ 64) : (lay (hcells l) (8 + l.length % 64) (u8s c)).length = 73 := by
  rw [lay_left l c h, List.length_append, List.length_append, u32s_length, list_len, u8s_length, mid_len l c h]; rfl
end Go.Proofs.YtebfdbibeecncaaDoor.Sha
