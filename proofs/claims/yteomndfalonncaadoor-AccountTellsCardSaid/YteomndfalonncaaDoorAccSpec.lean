/-
  Accounts over numbers and lists: which may be, their bytes, what is read of bytes; what is written is read, what is cut goes wrong; bytes come back. No program.
-/
import Derived.Test.YteomndfalonncaaDoorWireRefAll
import Derived.Test.YteomndfalonncaaDoorTagAll
import Derived.Test.YteomndfalonncaaDoorBytAll
import Derived.Test.YteomndfalonncaaDoorMemAll
namespace Go.Proofs.YteomndfalonncaaDoor.Ac
open Go.RowKit Go.Proofs.YteomndfalonncaaDoor.Mem Go.Proofs.YteomndfalonncaaDoor.Bt Go.Proofs.YteomndfalonncaaDoor.Wi
open Go.Proofs.YteomndfalonncaaDoor.Tg (bytesOf bytesOf_length bytesOf_lt bytesOf_inj)
set_option linter.unusedVariables false
set_option linter.unusedSimpArgs false

/-- An account: its name, what it owns, how often it spent. -/
structure Acct where
  nm : ByteArray
  bal : Nat
  non : Nat
structure Acct.Ok (a : Acct) : Prop where
  bal : a.bal < 18446744073709551616
  non : a.non < 4294967296
/-- The empty one. -/
def za : Acct := ⟨ByteArray.empty, 0, 0⟩
theorem za_ok : za.Ok := ⟨by decide, by decide⟩
def acs (a : Acct) : List Value := [.string a.nm, .int .u64 (a.bal : Int), .int .u32 (a.non : Int)]
theorem acs_len (a : Acct) : (acs a).length = 3 := rfl
theorem acs_one (a : Acct) : OneCells (acs a) := by
  intro v hv
  simp only [acs, List.mem_cons, List.not_mem_nil, or_false] at hv
  rcases hv with rfl | rfl | rfl <;> rfl
theorem acs_inj {a b : Acct} (h : acs a = acs b) : a = b := by
  obtain ⟨n, x, y⟩ := a
  obtain ⟨m, u, v⟩ := b
  simp only [acs, List.cons.injEq, Value.string.injEq, Value.int.injEq, and_true, true_and] at h
  obtain ⟨rfl, h1, h2⟩ := h
  have e1 : x = u := by omega
  have e2 : y = v := by omega
  rw [e1, e2]
theorem acs_iff {a b : Acct} : acs a = acs b ↔ a = b := ⟨acs_inj, fun h => by rw [h]⟩
/-- Letters, all of them. -/
def Lets (l : List Nat) : Prop := ∀ x ∈ l, 97 ≤ x ∧ x ≤ 122
instance (l : List Nat) : Decidable (Lets l) := inferInstanceAs (Decidable (∀ x ∈ l, 97 ≤ x ∧ x ≤ 122))
/-- May a name be? -/
def NRt (s : ByteArray) : Prop := 1 ≤ s.size ∧ s.size ≤ 8 ∧ Lets (bytesOf s)
instance (s : ByteArray) : Decidable (NRt s) := inferInstanceAs (Decidable (_ ∧ _ ∧ _))
/-- An account's bytes. -/
def accB (a : Acct) : List Nat := (a.nm.size :: bytesOf a.nm) ++ put a.bal 8 ++ put a.non 4
theorem accB_len (a : Acct) : (accB a).length = a.nm.size + 13 := by
  unfold accB
  rw [List.length_append, List.length_append, List.length_cons, bytesOf_length, put_length, put_length]
theorem accB_lt {a : Acct} (h : a.nm.size ≤ 255) : AllLt 256 (accB a) := by
  refine append_lt (append_lt ?_ (put_lt _ _)) (put_lt _ _)
  intro x hx
  rcases List.mem_cons.1 hx with rfl | hx
  · omega
  · exact bytesOf_lt _ x hx
/-- A text of bytes. -/
def strOf (l : List Nat) : ByteArray := ⟨(l.map UInt8.ofNat).toArray⟩
theorem str_size (l : List Nat) : (strOf l).size = l.length := by simp [strOf, ByteArray.size]
theorem bytes_str {l : List Nat} (h : AllLt 256 l) : bytesOf (strOf l) = l := by
  unfold bytesOf strOf
  simp only [List.map_map]
  have : ∀ x ∈ l, ((fun b : UInt8 => b.toNat) ∘ UInt8.ofNat) x = x := fun x hx => by
    have := h x hx
    simp [UInt8.toNat_ofNat']
    omega
  exact (List.map_congr_left this).trans (List.map_id _)
theorem str_bytes (s : ByteArray) : strOf (bytesOf s) = s := bytesOf_inj (bytes_str (bytesOf_lt s))
/-! ### What is read -/
def q1 (b : List Nat) : List Nat × RS := textR 8 (b, 0)
def q2 (b : List Nat) : Nat × RS := numR 8 (q1 b).2
def q3 (b : List Nat) : Nat × RS := numR 4 (q2 b).2
def accR (b : List Nat) : Acct := ⟨strOf (q1 b).1, (q2 b).1, (q3 b).1⟩
def eR (b : List Nat) : Nat := endR (q3 b).2
def rdA (b : List Nat) : Acct × Nat := if eR b ≠ 0 then (za, eR b) else if NRt (accR b).nm then (accR b, 0) else (za, 2)
theorem left_lt {k : Nat} {s : RS} (h : AllLt 256 s.1) : AllLt 256 (takeR k s).2.1 := by
  unfold takeR
  split
  · exact fun x hx => h x (List.mem_of_mem_drop hx)
  · intro x hx; cases hx
theorem text_lt {m : Int} {s : RS} (h : AllLt 256 s.1) : AllLt 256 (textR m s).1 ∧ AllLt 256 (textR m s).2.1 := by
  unfold textR
  split
  · refine ⟨fun x hx => ?_, fun x hx => ?_⟩ <;> cases hx
  · have h1 : AllLt 256 (numR 1 s).2.1 := left_lt h
    refine ⟨fun x hx => ?_, left_lt h1⟩
    unfold takeR at hx
    split at hx
    · exact h1 x (List.mem_of_mem_take hx)
    · cases hx
theorem q_lt {b : List Nat} (h : AllLt 256 b) : AllLt 256 (q1 b).1 ∧ AllLt 256 (q1 b).2.1 ∧ AllLt 256 (q2 b).2.1 ∧ AllLt 256 (q3 b).2.1 := by
  have h1 : AllLt 256 (q1 b).1 ∧ AllLt 256 (q1 b).2.1 := text_lt (s := (b, 0)) h
  have h2 : AllLt 256 (q2 b).2.1 := left_lt h1.2
  exact ⟨h1.1, h1.2, h2, left_lt h2⟩
theorem num_lt' {k : Nat} {s : RS} (h : AllLt 256 s.1) : (numR k s).1 < 256 ^ k := by
  unfold numR takeR
  split
  · have := numOf_lt (s.1.take k) (fun x hx => h x (List.mem_of_mem_take hx))
    refine Nat.lt_of_lt_of_le this (Nat.pow_le_pow_right (by omega) (by rw [List.length_take]; omega))
  · exact Nat.pow_pos (by omega)
theorem accR_ok {b : List Nat} (h : AllLt 256 b) : (accR b).Ok := ⟨num_lt' (k := 8) (q_lt h).2.1, num_lt' (k := 4) (q_lt h).2.2.1⟩
theorem rdA_ok {b : List Nat} (h : AllLt 256 b) : (rdA b).1.Ok := by
  unfold rdA
  split
  · exact za_ok
  · split
    · exact accR_ok h
    · exact za_ok
/-! ### What is written is read -/
theorem text_all (bs rest : List Nat) (h : bs.length ≤ 8) : textR 8 (bs.length :: (bs ++ rest), 0) = (bs, (rest, 0)) := by
  have h1 : numR 1 (bs.length :: (bs ++ rest), 0) = (bs.length, (bs ++ rest, 0)) := by
    have := numR_all [bs.length] (bs ++ rest) 0 1 rfl
    rw [numOf_one] at this
    exact this
  unfold textR
  rw [h1, if_neg (by omega)]
  exact takeR_all bs rest 0 bs.length rfl
theorem accB_eq (a : Acct) (r : List Nat) : accB a ++ r = (bytesOf a.nm).length :: (bytesOf a.nm ++ (put a.bal 8 ++ (put a.non 4 ++ r))) := by
  unfold accB
  rw [bytesOf_length]
  simp [List.append_assoc]
theorem q1_of {a : Acct} (h : a.nm.size ≤ 8) (r : List Nat) : q1 ((bytesOf a.nm).length :: (bytesOf a.nm ++ r)) = (bytesOf a.nm, (r, 0)) :=
  text_all _ _ (by rw [bytesOf_length]; exact h)
theorem q2_of {a : Acct} (h : a.nm.size ≤ 8) (k : a.Ok) (r : List Nat) : q2 ((bytesOf a.nm).length :: (bytesOf a.nm ++ (put a.bal 8 ++ r))) = (a.bal, (r, 0)) := by
  unfold q2
  rw [q1_of h, numR_all _ _ _ _ (put_length _ _), numOf_put, Nat.mod_eq_of_lt (Nat.lt_of_lt_of_le k.bal (by decide))]
theorem q3_of {a : Acct} (h : a.nm.size ≤ 8) (k : a.Ok) (r : List Nat) : q3 ((bytesOf a.nm).length :: (bytesOf a.nm ++ (put a.bal 8 ++ (put a.non 4 ++ r)))) = (a.non, (r, 0)) := by
  unfold q3
  rw [q2_of h k, numR_all _ _ _ _ (put_length _ _), numOf_put, Nat.mod_eq_of_lt (Nat.lt_of_lt_of_le k.non (by decide))]
theorem acc_back {a : Acct} (k : a.Ok) (h : NRt a.nm) : rdA (accB a) = (a, 0) := by
  have e : accB a = (bytesOf a.nm).length :: (bytesOf a.nm ++ (put a.bal 8 ++ (put a.non 4 ++ []))) := by rw [← accB_eq, List.append_nil]
  have h8 := h.2.1
  have hr : accR (accB a) = a := by
    unfold accR
    rw [e, q3_of h8 k, q2_of h8 k, q1_of h8, str_bytes]
  unfold rdA eR
  rw [hr, e, q3_of h8 k, if_neg (fun h => h rfl), if_pos h]
theorem acc_long {a : Acct} (k : a.Ok) (h : NRt a.nm) : rdA (accB a ++ [0]) = (za, 4) := by
  unfold rdA eR
  rw [accB_eq, q3_of h.2.1 k]
  rfl
theorem acc_short {a : Acct} (k : a.Ok) (h : NRt a.nm) : rdA ((accB a).take ((accB a).length - 1)) = (za, 3) := by
  have e : (accB a).take ((accB a).length - 1) = (bytesOf a.nm).length :: (bytesOf a.nm ++ (put a.bal 8 ++ (put a.non 4).take 3)) := by
    rw [accB_len, show a.nm.size + 13 - 1 = a.nm.size + 12 by omega]
    unfold accB
    rw [show put a.non 4 = put (a.non / 256) 3 ++ [a.non % 256] from rfl]
    rw [← List.append_assoc, List.take_left' (by rw [List.length_append, List.length_append, List.length_cons, bytesOf_length, put_length, put_length]), List.take_left' (put_length _ _), bytesOf_length]
    simp [List.append_assoc]
  rw [e]
  unfold rdA eR q3
  rw [q2_of h.2.1 k, numR_short _ _ (by rw [List.length_take, put_length]; decide)]
  rfl
theorem acc_inj {a b : Acct} (k : a.Ok) (j : b.Ok) (ha : NRt a.nm) (hb : NRt b.nm) (h : accB a = accB b) : a = b := by
  have h1 := acc_back k ha
  rw [h, acc_back j hb] at h1
  exact (congrArg Prod.fst h1).symm
/-! ### Bytes come back -/
theorem take_end {k : Nat} {s : RS} (h : (takeR k s).2.2 = 0) : s.2 = 0 ∧ k ≤ s.1.length ∧ s.1 = (takeR k s).1 ++ (takeR k s).2.1 ∧ (takeR k s).1.length = k := by
  unfold takeR at h ⊢
  split
  · rename_i hk
    rw [if_pos hk] at h
    refine ⟨h, hk, (List.take_append_drop _ _).symm, ?_⟩
    rw [List.length_take]
    omega
  · rename_i hk
    rw [if_neg hk] at h
    simp only [failed] at h
    split at h
    · cases h
    · rename_i hn; exact absurd h hn
theorem put_num : ∀ (k : Nat) (l : List Nat), l.length = k → AllLt 256 l → put (numOf l) k = l
  | 0, l, hl, _ => by rw [List.eq_nil_of_length_eq_zero hl]; rfl
  | k + 1, l, hl, hlt => by
    obtain ⟨l', x, rfl⟩ : ∃ l' x, l = l' ++ [x] := by
      rcases List.eq_nil_or_concat l with e | ⟨l', x, e⟩
      · rw [e] at hl; simp at hl
      · exact ⟨l', x, by rw [e]; simp⟩
    have hx : x < 256 := hlt x (by simp)
    have hl' : l'.length = k := by simpa using hl
    rw [numOf_snoc]
    show put ((numOf l' * 256 + x) / 256) k ++ [(numOf l' * 256 + x) % 256] = l' ++ [x]
    rw [show (numOf l' * 256 + x) / 256 = numOf l' by omega, show (numOf l' * 256 + x) % 256 = x by omega, put_num k l' hl' (fun y hy => hlt y (by simp [hy]))]
theorem num_end {k : Nat} {s : RS} (hlt : AllLt 256 s.1) (h : (numR k s).2.2 = 0) : s.2 = 0 ∧ s.1 = put (numR k s).1 k ++ (numR k s).2.1 := by
  obtain ⟨h1, h2, h3, h4⟩ := take_end (k := k) (s := s) h
  refine ⟨h1, ?_⟩
  unfold numR
  rw [put_num k _ h4 (fun x hx => hlt x (by rw [h3]; exact List.mem_append.2 (.inl hx)))]
  exact h3
theorem text_end {s : RS} (hlt : AllLt 256 s.1) (h : (textR 8 s).2.2 = 0) : s.1 = ((textR 8 s).1.length :: (textR 8 s).1) ++ (textR 8 s).2.1 := by
  unfold textR at h ⊢
  split
  · rename_i hb
    rw [if_pos hb] at h
    simp only [failed] at h
    split at h
    · cases h
    · rename_i hn; exact absurd h hn
  · rename_i hb
    rw [if_neg hb] at h
    obtain ⟨h1, h2, h3, h4⟩ := take_end h
    obtain ⟨h5, h6⟩ := num_end (k := 1) hlt h1
    have hn := num_lt' (k := 1) (s := s) hlt
    rw [h4]
    have e : put (numR 1 s).1 1 = [(numR 1 s).1] := by rw [put1, Nat.mod_eq_of_lt (by omega)]
    rw [e] at h6
    rw [List.cons_append, ← h3]
    exact h6
theorem bytes_back {b : List Nat} (hlt : AllLt 256 b) (h : (rdA b).2 = 0) : accB (rdA b).1 = b ∧ NRt (rdA b).1.nm := by
  unfold rdA at h ⊢
  by_cases he : eR b ≠ 0
  · rw [if_pos he] at h; exact absurd h he
  rw [if_neg he] at h ⊢
  by_cases hc : NRt (accR b).nm
  · rw [if_pos hc]
    refine ⟨?_, hc⟩
    have he0 : endR (q3 b).2 = 0 := Decidable.not_not.1 he
    have hz : (q3 b).2.2 = 0 ∧ (q3 b).2.1 = [] := by
      unfold endR at he0
      split at he0
      · rename_i hn; exact absurd he0 hn
      · rename_i hn
        split at he0
        · rename_i h0; exact ⟨Decidable.not_not.1 hn, h0⟩
        · cases he0
    obtain ⟨hl1, hl2, hl3, hl4⟩ := q_lt hlt
    obtain ⟨g1, g2⟩ := num_end (k := 4) hl3 hz.1
    obtain ⟨g3, g4⟩ := num_end (k := 8) hl2 g1
    have g5 := text_end (s := (b, 0)) hlt g3
    unfold accB accR
    show ((strOf (q1 b).1).size :: bytesOf (strOf (q1 b).1)) ++ put (q2 b).1 8 ++ put (q3 b).1 4 = b
    rw [str_size, bytes_str hl1, List.append_assoc]
    have e4 : put (q3 b).1 4 = (q2 b).2.1 := by
      have := g2
      change _ = put (q3 b).1 4 ++ (q3 b).2.1 at this
      rw [hz.2, List.append_nil] at this
      exact this.symm
    have e8 : put (q2 b).1 8 ++ (q2 b).2.1 = (q1 b).2.1 := g4.symm
    rw [e4, e8]
    exact g5.symm
  · rw [if_neg hc] at h
    cases h
end Go.Proofs.YteomndfalonncaaDoor.Ac
