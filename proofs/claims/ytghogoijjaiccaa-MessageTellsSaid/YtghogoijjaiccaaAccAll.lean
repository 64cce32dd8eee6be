import Derived.Test.YtghogoijjaiccaaWireRefAll
import Derived.Test.YtghogoijjaiccaaTagAll
import Derived.Test.YtghogoijjaiccaaBytAll
import Derived.Test.YtghogoijjaiccaaMemAll
import Derived.Test.YtghogoijjaiccaaEpoAll
import Derived.Test.YtghogoijjaiccaaFitAll
import Derived.Test.YtghogoijjaiccaaWireAll
import Derived.Laws.IdiomStrings
import Derived.Laws.RangeString
import Derived.Laws.RangeAny
import Derived.Lib.OthersKept
import Derived.Test.YtghogoijjaiccaaTagOne
import Derived.LoopTactic
import Derived.Deep.DeepCutAuto
/-
  Accounts over numbers and lists: which may be, their bytes, what is read of bytes; what is written is read, what is cut goes wrong; bytes come back. No program.
-/
namespace Go.Proofs.Ytghogoijjaiccaa.Ac
open Go.RowKit Go.Proofs.Ytghogoijjaiccaa.Mem Go.Proofs.Ytghogoijjaiccaa.Bt Go.Proofs.Ytghogoijjaiccaa.Wi
open Go.Proofs.Ytghogoijjaiccaa.Tg (bytesOf bytesOf_length bytesOf_lt bytesOf_inj)
set_option linter.unusedVariables false
set_option linter.unusedSimpArgs false

/-- An account: its name, what it owns, how often it spent. -/
structure Acct where
  nm : ByteArray
  bal : Nat
  non : Nat
structure Acct.Ok (a : Acct) : Prop where
  bal : a.bal < 18446744073709551616
  non : a.non < 4294967296
/-- The empty one. -/
def za : Acct := ⟨ByteArray.empty, 0, 0⟩
theorem za_ok : za.Ok := ⟨by decide, by decide⟩
def acs (a : Acct) : List Value := [.string a.nm, .int .u64 (a.bal : Int), .int .u32 (a.non : Int)]
theorem acs_len (a : Acct) : (acs a).length = 3 := rfl
theorem acs_one (a : Acct) : OneCells (acs a) := by
  intro v hv
  simp only [acs, List.mem_cons, List.not_mem_nil, or_false] at hv
  rcases hv with rfl | rfl | rfl <;> rfl
theorem acs_inj {a b : Acct} (h : acs a = acs b) : a = b := by
  obtain ⟨n, x, y⟩ := a
  obtain ⟨m, u, v⟩ := b
  simp only [acs, List.cons.injEq, Value.string.injEq, Value.int.injEq, and_true, true_and] at h
  obtain ⟨rfl, h1, h2⟩ := h
  have e1 : x = u := by omega
  have e2 : y = v := by omega
  rw [e1, e2]
theorem acs_iff {a b : Acct} : acs a = acs b ↔ a = b := ⟨acs_inj, fun h => by rw [h]⟩
/-- Letters, all of them. -/
def Lets (l : List Nat) : Prop := ∀ x ∈ l, 97 ≤ x ∧ x ≤ 122
instance (l : List Nat) : Decidable (Lets l) := inferInstanceAs (Decidable (∀ x ∈ l, 97 ≤ x ∧ x ≤ 122))
/-- May a name be? -/
def NRt (s : ByteArray) : Prop := 1 ≤ s.size ∧ s.size ≤ 8 ∧ Lets (bytesOf s)
instance (s : ByteArray) : Decidable (NRt s) := inferInstanceAs (Decidable (_ ∧ _ ∧ _))
/-- An account's bytes. -/
def accB (a : Acct) : List Nat := (a.nm.size :: bytesOf a.nm) ++ put a.bal 8 ++ put a.non 4
theorem accB_len (a : Acct) : (accB a).length = a.nm.size + 13 := by
  unfold accB
  rw [List.length_append, List.length_append, List.length_cons, bytesOf_length, put_length, put_length]
theorem accB_lt {a : Acct} (h : a.nm.size ≤ 255) : AllLt 256 (accB a) := by
  refine append_lt (append_lt ?_ (put_lt _ _)) (put_lt _ _)
  intro x hx
  rcases List.mem_cons.1 hx with rfl | hx
  · omega
  · exact bytesOf_lt _ x hx
/-- A text of bytes. -/
def strOf (l : List Nat) : ByteArray := ⟨(l.map UInt8.ofNat).toArray⟩
theorem str_size (l : List Nat) : (strOf l).size = l.length := by simp [strOf, ByteArray.size]
theorem bytes_str {l : List Nat} (h : AllLt 256 l) : bytesOf (strOf l) = l := by
  unfold bytesOf strOf
  simp only [List.map_map]
  have : ∀ x ∈ l, ((fun b : UInt8 => b.toNat) ∘ UInt8.ofNat) x = x := fun x hx => by
    have := h x hx
    simp [UInt8.toNat_ofNat']
    omega
  exact (List.map_congr_left this).trans (List.map_id _)
theorem str_bytes (s : ByteArray) : strOf (bytesOf s) = s := bytesOf_inj (bytes_str (bytesOf_lt s))
def q1 (b : List Nat) : List Nat × RS := textR 8 (b, 0)
def q2 (b : List Nat) : Nat × RS := numR 8 (q1 b).2
def q3 (b : List Nat) : Nat × RS := numR 4 (q2 b).2
def accR (b : List Nat) : Acct := ⟨strOf (q1 b).1, (q2 b).1, (q3 b).1⟩
def eR (b : List Nat) : Nat := endR (q3 b).2
def rdA (b : List Nat) : Acct × Nat := if eR b ≠ 0 then (za, eR b) else if NRt (accR b).nm then (accR b, 0) else (za, 2)
theorem left_lt {k : Nat} {s : RS} (h : AllLt 256 s.1) : AllLt 256 (takeR k s).2.1 := by
  unfold takeR
  split
  · exact fun x hx => h x (List.mem_of_mem_drop hx)
  · intro x hx; cases hx
theorem text_lt {m : Int} {s : RS} (h : AllLt 256 s.1) : AllLt 256 (textR m s).1 ∧ AllLt 256 (textR m s).2.1 := by
  unfold textR
  split
  · refine ⟨fun x hx => ?_, fun x hx => ?_⟩ <;> cases hx
  · have h1 : AllLt 256 (numR 1 s).2.1 := left_lt h
    refine ⟨fun x hx => ?_, left_lt h1⟩
    unfold takeR at hx
    split at hx
    · exact h1 x (List.mem_of_mem_take hx)
    · cases hx
theorem q_lt {b : List Nat} (h : AllLt 256 b) : AllLt 256 (q1 b).1 ∧ AllLt 256 (q1 b).2.1 ∧ AllLt 256 (q2 b).2.1 ∧ AllLt 256 (q3 b).2.1 := by
  have h1 : AllLt 256 (q1 b).1 ∧ AllLt 256 (q1 b).2.1 := text_lt (s := (b, 0)) h
  have h2 : AllLt 256 (q2 b).2.1 := left_lt h1.2
  exact ⟨h1.1, h1.2, h2, left_lt h2⟩
theorem num_lt' {k : Nat} {s : RS} (h : AllLt 256 s.1) : (numR k s).1 < 256 ^ k := by
  unfold numR takeR
  split
  · have := numOf_lt (s.1.take k) (fun x hx => h x (List.mem_of_mem_take hx))
    refine Nat.lt_of_lt_of_le this (Nat.pow_le_pow_right (by omega) (by rw [List.length_take]; omega))
  · exact Nat.pow_pos (by omega)
theorem accR_ok {b : List Nat} (h : AllLt 256 b) : (accR b).Ok := ⟨num_lt' (k := 8) (q_lt h).2.1, num_lt' (k := 4) (q_lt h).2.2.1⟩
theorem rdA_ok {b : List Nat} (h : AllLt 256 b) : (rdA b).1.Ok := by
  unfold rdA
  split
  · exact za_ok
  · split
    · exact accR_ok h
    · exact za_ok
theorem text_all (bs rest : List Nat) (h : bs.length ≤ 8) : textR 8 (bs.length :: (bs ++ rest), 0) = (bs, (rest, 0)) := by
  have h1 : numR 1 (bs.length :: (bs ++ rest), 0) = (bs.length, (bs ++ rest, 0)) := by
    have := numR_all [bs.length] (bs ++ rest) 0 1 rfl
    rw [numOf_one] at this
    exact this
  unfold textR
  rw [h1, if_neg (by omega)]
  exact takeR_all bs rest 0 bs.length rfl
theorem accB_eq (a : Acct) (r : List Nat) : accB a ++ r = (bytesOf a.nm).length :: (bytesOf a.nm ++ (put a.bal 8 ++ (put a.non 4 ++ r))) := by
  unfold accB
  rw [bytesOf_length]
  simp [List.append_assoc]
theorem q1_of {a : Acct} (h : a.nm.size ≤ 8) (r : List Nat) : q1 ((bytesOf a.nm).length :: (bytesOf a.nm ++ r)) = (bytesOf a.nm, (r, 0)) :=
  text_all _ _ (by rw [bytesOf_length]; exact h)
theorem q2_of {a : Acct} (h : a.nm.size ≤ 8) (k : a.Ok) (r : List Nat) : q2 ((bytesOf a.nm).length :: (bytesOf a.nm ++ (put a.bal 8 ++ r))) = (a.bal, (r, 0)) := by
  unfold q2
  rw [q1_of h, numR_all _ _ _ _ (put_length _ _), numOf_put, Nat.mod_eq_of_lt (Nat.lt_of_lt_of_le k.bal (by decide))]
theorem q3_of {a : Acct} (h : a.nm.size ≤ 8) (k : a.Ok) (r : List Nat) : q3 ((bytesOf a.nm).length :: (bytesOf a.nm ++ (put a.bal 8 ++ (put a.non 4 ++ r)))) = (a.non, (r, 0)) := by
  unfold q3
  rw [q2_of h k, numR_all _ _ _ _ (put_length _ _), numOf_put, Nat.mod_eq_of_lt (Nat.lt_of_lt_of_le k.non (by decide))]
theorem acc_back {a : Acct} (k : a.Ok) (h : NRt a.nm) : rdA (accB a) = (a, 0) := by
  have e : accB a = (bytesOf a.nm).length :: (bytesOf a.nm ++ (put a.bal 8 ++ (put a.non 4 ++ []))) := by rw [← accB_eq, List.append_nil]
  have h8 := h.2.1
  have hr : accR (accB a) = a := by
    unfold accR
    rw [e, q3_of h8 k, q2_of h8 k, q1_of h8, str_bytes]
  unfold rdA eR
  rw [hr, e, q3_of h8 k, if_neg (fun h => h rfl), if_pos h]
theorem take_end {k : Nat} {s : RS} (h : (takeR k s).2.2 = 0) : s.2 = 0 ∧ k ≤ s.1.length ∧ s.1 = (takeR k s).1 ++ (takeR k s).2.1 ∧ (takeR k s).1.length = k := by
  unfold takeR at h ⊢
  split
  · rename_i hk
    rw [if_pos hk] at h
    refine ⟨h, hk, (List.take_append_drop _ _).symm, ?_⟩
    rw [List.length_take]
    omega
  · rename_i hk
    rw [if_neg hk] at h
    simp only [failed] at h
    split at h
    · cases h
    · rename_i hn; exact absurd h hn
theorem put_num : ∀ (k : Nat) (l : List Nat), l.length = k → AllLt 256 l → put (numOf l) k = l
  | 0, l, hl, _ => by rw [List.eq_nil_of_length_eq_zero hl]; rfl
  | k + 1, l, hl, hlt => by
    obtain ⟨l', x, rfl⟩ : ∃ l' x, l = l' ++ [x] := by
      rcases List.eq_nil_or_concat l with e | ⟨l', x, e⟩
      · rw [e] at hl; simp at hl
      · exact ⟨l', x, by rw [e]; simp⟩
    have hx : x < 256 := hlt x (by simp)
    have hl' : l'.length = k := by simpa using hl
    rw [numOf_snoc]
    show put ((numOf l' * 256 + x) / 256) k ++ [(numOf l' * 256 + x) % 256] = l' ++ [x]
    rw [show (numOf l' * 256 + x) / 256 = numOf l' by omega, show (numOf l' * 256 + x) % 256 = x by omega, put_num k l' hl' (fun y hy => hlt y (by simp [hy]))]
theorem num_end {k : Nat} {s : RS} (hlt : AllLt 256 s.1) (h : (numR k s).2.2 = 0) : s.2 = 0 ∧ s.1 = put (numR k s).1 k ++ (numR k s).2.1 := by
  obtain ⟨h1, h2, h3, h4⟩ := take_end (k := k) (s := s) h
  refine ⟨h1, ?_⟩
  unfold numR
  rw [put_num k _ h4 (fun x hx => hlt x (by rw [h3]; exact List.mem_append.2 (.inl hx)))]
  exact h3
theorem text_end {s : RS} (hlt : AllLt 256 s.1) (h : (textR 8 s).2.2 = 0) : s.1 = ((textR 8 s).1.length :: (textR 8 s).1) ++ (textR 8 s).2.1 := by
  unfold textR at h ⊢
  split
  · rename_i hb
    rw [if_pos hb] at h
    simp only [failed] at h
    split at h
    · cases h
    · rename_i hn; exact absurd h hn
  · rename_i hb
    rw [if_neg hb] at h
    obtain ⟨h1, h2, h3, h4⟩ := take_end h
    obtain ⟨h5, h6⟩ := num_end (k := 1) hlt h1
    have hn := num_lt' (k := 1) (s := s) hlt
    rw [h4]
    have e : put (numR 1 s).1 1 = [(numR 1 s).1] := by rw [put1, Nat.mod_eq_of_lt (by omega)]
    rw [e] at h6
    rw [List.cons_append, ← h3]
    exact h6
theorem bytes_back {b : List Nat} (hlt : AllLt 256 b) (h : (rdA b).2 = 0) : accB (rdA b).1 = b ∧ NRt (rdA b).1.nm := by
  unfold rdA at h ⊢
  by_cases he : eR b ≠ 0
  · rw [if_pos he] at h; exact absurd h he
  rw [if_neg he] at h ⊢
  by_cases hc : NRt (accR b).nm
  · rw [if_pos hc]
    refine ⟨?_, hc⟩
    have he0 : endR (q3 b).2 = 0 := Decidable.not_not.1 he
    have hz : (q3 b).2.2 = 0 ∧ (q3 b).2.1 = [] := by
      unfold endR at he0
      split at he0
      · rename_i hn; exact absurd he0 hn
      · rename_i hn
        split at he0
        · rename_i h0; exact ⟨Decidable.not_not.1 hn, h0⟩
        · cases he0
    obtain ⟨hl1, hl2, hl3, hl4⟩ := q_lt hlt
    obtain ⟨g1, g2⟩ := num_end (k := 4) hl3 hz.1
    obtain ⟨g3, g4⟩ := num_end (k := 8) hl2 g1
    have g5 := text_end (s := (b, 0)) hlt g3
    unfold accB accR
    show ((strOf (q1 b).1).size :: bytesOf (strOf (q1 b).1)) ++ put (q2 b).1 8 ++ put (q3 b).1 4 = b
    rw [str_size, bytes_str hl1, List.append_assoc]
    have e4 : put (q3 b).1 4 = (q2 b).2.1 := by
      have := g2
      change _ = put (q3 b).1 4 ++ (q3 b).2.1 at this
      rw [hz.2, List.append_nil] at this
      exact this.symm
    have e8 : put (q2 b).1 8 ++ (q2 b).2.1 = (q1 b).2.1 := g4.symm
    rw [e4, e8]
    exact g5.symm
  · rw [if_neg hc] at h
    cases h
end Go.Proofs.Ytghogoijjaiccaa.Ac

/-
  Accounts as cells; a text as bytes, bytes as a text, a text that is ranged over, as operations of the walk. Over this seat's translation.
-/
namespace Go.Proofs.Ytghogoijjaiccaa.Ac
open Go.ChangeShapes Go.WideShapes Go.ChangeAt Go.RowKit Go.Proofs.Ytghogoijjaiccaa.Mem Go.Proofs.Ytghogoijjaiccaa.Bt Go.Proofs.Ytghogoijjaiccaa.Wi
open Go.Proofs.Ytghogoijjaiccaa.Tg (bytesOf bytesOf_length bytesOf_lt bytesOf_inj Rd Rd.below)
set_option linter.unusedVariables false
set_option linter.unusedSimpArgs false

section
variable {P : Program} {ops : Array Oper} {rest : List Oper} {o : Oper} {a : Act} {w : World} {Q : Exit → Act → World → Prop} {md : Region.Mode} {S S' : World → Prop} {fuel : Nat} {listed : Array Bool}
/-- More is kept than was asked for. -/
theorem h_more (hSS : ∀ w, S' w → S w) : ∀ (fuel : Nat) (listed : Array Bool) (a : Act) (w : World), wpAnyH P md ops Q S' fuel listed a w → wpAnyH P md ops Q S fuel listed a w
  | 0, _, _, _, h => h
  | fuel + 1, _, _, _, h => ⟨h.1, fun i hi => wpOp_mono (fun a' w' h' => ⟨hSS _ h'.1, h_more hSS fuel _ a' w' h'.2⟩) (h.2 i hi)⟩
/-- 'range s' over a text: its iterator lies in a block of its own. -/
theorem arm_range (hgd : o.guard = none) (t : TypeId) (x : Operand) (ho : o.op = .range t x) (s : ByteArray) (hx : a.eval x = .string s) (hu : P.underlying t = some .string)
    (h : ∀ I w2, Hid (I = w.heap.size) → w2.heap[I]? = some (.stringIter s 0) → New w w2 → wpList P ops Q rest (a.put o.dst (.pointer (some ⟨I, 0, none⟩))) w2) : wpList P ops Q (o :: rest) a w := by
  refine wpList_plain hgd fun K hK => ?_
  unfold Oper.wp execOp
  simp only [ho, hx, Sem.run_bind, run_range_string w t s hu, Result.andThen_ok, Sem.run_pure]
  exact hK _ _ (h _ _ rfl (World.iter_heap w s 0) (new_alloc _ _))
theorem byte_at (s : ByteArray) (j : Nat) (hj : j < s.size) : (bytesOf s)[j]? = some (s[j]'hj).toNat := by
  have hj2 : j < s.data.toList.length := by simpa using hj
  unfold bytesOf
  rw [List.getElem?_map, List.getElem?_eq_getElem hj2]
  rfl
theorem byte_getD (s : ByteArray) (j : Nat) (hj : j < s.size) : (bytesOf s).getD j 0 = (s[j]'hj).toNat := by
  rw [List.getD_eq_getElem?_getD, byte_at s j hj]
  rfl
/-- '[]byte(s)'. -/
theorem arm_strBytes (hgd : o.guard = none) (src dst e : TypeId) (x : Operand) (ho : o.op = .convert src dst x) (s : ByteArray) (hx : a.eval x = .string s) (hs : P.underlying src = some .string) (hd : P.underlying dst = some (.slice e)) (he : P.underlying e = some (.int .u8))
    (h : ∀ b cap w2, Hid (b = w.heap.size) → w2.rangeAt b 0 (u8s (bytesOf s)) → New w w2 → wpList P ops Q rest (a.put o.dst (.slice (some ⟨b, 0, none⟩) s.size cap)) w2) : wpList P ops Q (o :: rest) a w := by
  refine wpList_plain hgd fun K hK => ?_
  unfold Oper.wp execOp
  simp only [ho, hx, Sem.run_bind, run_bytes_of_string w src dst e s hs hd he, Result.andThen_ok, Sem.run_pure]
  refine hK _ _ (h _ _ _ rfl (fun j v hj => ?_) ⟨((Below.refl w.heap.size w).drew).trans (new_alloc w.drew _).below, (new_alloc w.drew _).size⟩)
  rw [Nat.zero_add]
  have hj2 := (List.getElem?_eq_some_iff.1 hj).1
  rw [u8s_length, bytesOf_length] at hj2
  have hc := World.cell?_alloc_mark w.drew (bytesRow s (grownCap w s.size 0 e)) e ((bytesRow s (grownCap w s.size 0 e)).size, (bytesRow s (grownCap w s.size 0 e)).size + 1) j
  refine Eq.trans hc ?_
  rw [bytesRow_at s _ j hj2, ← hj, u8s_get (by rw [bytesOf_length]; exact hj2), byte_getD s j hj2]
  rfl
/-- 'string(b)' of bytes that can be read. -/
theorem run_op_toStr (src dst e : TypeId) (x : Operand) (ho : o.op = .convert src dst x) (hs : P.underlying src = some (.slice e)) (he : P.underlying e = some (.int .u8)) (hd : P.underlying dst = some .string)
    (p : Option Addr) (n cap : Nat) (bs : List Nat) (hx : a.eval x = .slice p n cap) (hn : n = bs.length) (hr : bs ≠ [] → ∃ g o, p = some ⟨g, o, none⟩ ∧ w.rangeAt g o (u8s bs)) (hlt : AllLt 256 bs) : (execOp a.eval o).run P w = .ok (.value (.string (strOf bs))) w := by
  subst hn
  have hc : (convert src dst (.slice p bs.length cap)).run P w = .ok (.string (strOf bs)) w := by
    cases p with
    | none =>
      have hb : bs = [] := by
        rcases Classical.em (bs = []) with h | h
        · exact h
        · obtain ⟨g, o, e, _⟩ := hr h; cases e
      subst hb
      rw [run_convert_bytes_string w src dst e none _ cap hs he hd]
      simp [Conv.bytesToString, strOf]
      rfl
    | some ad =>
      have h := run_convert_bytes_back (P := P) w src dst e ad cap (bs.map UInt8.ofNat) hs he hd (fun j hj => by
        rw [List.length_map] at hj
        obtain ⟨g, o, e, hg⟩ := hr (by intro h; rw [h] at hj; simp at hj)
        rw [Option.some.inj e, Addr.add_mid, hg j _ (u8s_get hj)]
        have hb := hlt (bs[j]) (List.getElem_mem hj)
        rw [List.getElem_map, List.getD_eq_getElem?_getD, List.getElem?_eq_getElem hj]
        simp [UInt8.toNat_ofNat']
        omega)
      rw [List.length_map] at h
      exact h
  unfold execOp
  simp only [ho, hx, Sem.run_bind, hc, Result.andThen_ok, Sem.run_pure]
/-- 's[i]' of a text, run. -/
theorem run_op_indexS (t : TypeId) (x ix : Operand) (ho : o.op = .index t x ix) (hu : P.underlying t = some .string) (s : ByteArray) (hx : a.eval x = .string s) (k : IntKind) (i : Nat) (hi : a.eval ix = .int k (i : Int)) (hin : i < s.size) (n : Nat) (hn : (bytesOf s).getD i 0 = n) (w : World) :
    (execOp a.eval o).run P w = .ok (.value (.int .u8 (n : Int))) w := by
  subst hn
  have hr : (Instr.index t (.string s) (.int k (i : Int))).run P w = .ok (.int .u8 (((bytesOf s).getD i 0 : Nat) : Int)) w := by
    rw [byte_getD s i hin]
    have hg : s.get! i = s[i]'hin := by
      have := get_at s i hin
      rwa [Nat.add_zero] at this
    simp [Instr.index, asIntOf, run_underlying hu, hin, hg]
  unfold execOp
  simp only [ho, hx, hi, Sem.run_bind, hr, Result.andThen_ok, Sem.run_pure]
/-- 's[i]' of a text. -/
theorem arm_indexS (hgd : o.guard = none) (t : TypeId) (x ix : Operand) (ho : o.op = .index t x ix) (hu : P.underlying t = some .string) (s : ByteArray) (hx : a.eval x = .string s) (k : IntKind) (i : Nat) (hi : a.eval ix = .int k (i : Int)) (hin : i < s.size) (n : Nat) (hn : (bytesOf s).getD i 0 = n)
    (h : wpList P ops Q rest (a.put o.dst (.int .u8 (n : Int))) w) : wpList P ops Q (o :: rest) a w := by
  refine wpList_plain hgd fun K hK => ?_
  unfold Oper.wp
  rw [run_op_indexS t x ix ho hu s hx k i hi hin n hn w]
  exact hK _ _ h
end
section
variable {s : ByteArray} {pos : Nat}
/-- A byte that is no text of its own comes as a letter behind z. -/
theorem high_far (h : pos < s.size) (ha : 128 ≤ (bytesOf s).getD pos 0) : 128 ≤ (Utf8.decode s pos).1 := by
  rw [byte_getD s pos h] at ha
  exact (decode_high s pos h ha).1
theorem lets_all (h : ∀ j, j < s.size → 97 ≤ (bytesOf s).getD j 0 ∧ (bytesOf s).getD j 0 ≤ 122) : Lets (bytesOf s) := fun x hx => by
  obtain ⟨j, hj, rfl⟩ := List.getElem_of_mem hx
  have hj2 := hj
  rw [bytesOf_length] at hj2
  have := h j hj2
  rwa [List.getD_eq_getElem?_getD, List.getElem?_eq_getElem hj] at this
theorem lets_at (h : Lets (bytesOf s)) {j : Nat} (hj : j < s.size) : 97 ≤ (bytesOf s).getD j 0 ∧ (bytesOf s).getD j 0 ≤ 122 := by
  have hj2 : j < (bytesOf s).length := by rw [bytesOf_length]; exact hj
  rw [List.getD_eq_getElem?_getD, List.getElem?_eq_getElem hj2]
  exact h _ (List.getElem_mem hj2)
end
theorem z_acc : Mem.Zero Try.prog 38 (acs za) := by unfold Mem.Zero; kernel_rfl
theorem z_racc : Mem.Zero Try.prog 57 (acs za) := by unfold Mem.Zero; kernel_rfl
theorem sz_acc (a : Acct) : Sized Try.prog 38 (acs a).length := ⟨.struct (Try.prog.fieldsOf 38), by kernel_rfl, rfl, by rw [acs_len]; kernel_rfl⟩
theorem sz_racc (a : Acct) : Sized Try.prog 57 (acs a).length := ⟨.struct (Try.prog.fieldsOf 57), by kernel_rfl, rfl, by rw [acs_len]; kernel_rfl⟩
theorem fitA (a : Acct) : 0 + (acs a).length ≤ (acs za).length := by rw [acs_len, acs_len]; omega
theorem allA (a : Acct) : lay (acs za) 0 (acs a) = acs a := lay_all _ _ rfl
theorem acs_no (a : Acct) : ∀ (i : Nat) (n : Int), (acs a)[i]? ≠ some (.int .u8 n) := by
  intro i n
  match i with
  | 0 => simp [acs]
  | 1 => simp [acs]
  | 2 => simp [acs]
  | i + 3 => simp [acs]
theorem built_za : Try.prog.built 38 [] = some (acs za).toArray := by kernel_rfl
theorem built_rza : Try.prog.built 57 [] = some (acs za).toArray := by kernel_rfl
theorem built_acc (s : ByteArray) (x y : Nat) : Try.prog.built 38 [(0, .string s), (1, .int .u64 (x : Int)), (2, .int .u32 (y : Int))] = some (acs ⟨s, x, y⟩).toArray := by kernel_rfl
set_option maxRecDepth 100000 in
theorem fit_acc (d : Nat) (a : Acct) : Fit Try.prog (d + 2) 38 (acs a) := by
  refine fit_struct [(9, 0), (36, 1), (22, 2)] (by kernel_rfl) (by kernel_rfl) (by kernel_rfl) (n := 3) (by kernel_rfl) rfl ?_
  intro p hp
  simp only [List.mem_cons, List.not_mem_nil, or_false] at hp
  rcases hp with rfl | rfl | rfl
  · rw [show Try.prog.cellsOf 9 = 1 by kernel_rfl]; exact fit_string (by kernel_rfl) _
  · rw [show Try.prog.cellsOf 36 = 1 by kernel_rfl]; exact fit_int (by kernel_rfl) _
  · rw [show Try.prog.cellsOf 22 = 1 by kernel_rfl]; exact fit_int (by kernel_rfl) _
set_option maxRecDepth 100000 in
theorem fit_racc (d : Nat) (a : Acct) : Fit Try.prog (d + 2) 57 (acs a) := by
  refine fit_struct [(9, 0), (36, 1), (22, 2)] (by kernel_rfl) (by kernel_rfl) (by kernel_rfl) (n := 3) (by kernel_rfl) rfl ?_
  intro p hp
  simp only [List.mem_cons, List.not_mem_nil, or_false] at hp
  rcases hp with rfl | rfl | rfl
  · rw [show Try.prog.cellsOf 9 = 1 by kernel_rfl]; exact fit_string (by kernel_rfl) _
  · rw [show Try.prog.cellsOf 36 = 1 by kernel_rfl]; exact fit_int (by kernel_rfl) _
  · rw [show Try.prog.cellsOf 22 = 1 by kernel_rfl]; exact fit_int (by kernel_rfl) _
section
variable {o : Oper} {a : Act}
set_option maxRecDepth 100000 in
theorem run_op_eqlA (x y : Operand) (t' : TypeId) (ho : o.op = .binOp .eql 38 x y t') (c d : Acct) (hx : a.eval x = .agg (acs c).toArray) (hy : a.eval y = .agg (acs d).toArray) (b : Bool) (hb : b = true ↔ c = d) (w : World) : (execOp a.eval o).run Try.prog w = .ok (.value (.bool b)) w :=
  run_op_eqlF _ x y t' ho 2 (by omega) (.struct (Try.prog.fieldsOf 38)) (by kernel_rfl) rfl (by kernel_rfl) (acs c) (acs d) hx hy (fit_acc 0 c) (fit_acc 0 d) b (hb.trans acs_iff.symm) w
end
end Go.Proofs.Ytghogoijjaiccaa.Ac

/-
  The contracts of package account's Right and of the document's: whether a name may be. Over this seat's translation.
-/
namespace Go.Proofs.Ytghogoijjaiccaa.Ac
open Go.ChangeShapes Go.WideShapes Go.ChangeAt Go.RowKit Go.Proofs.Ytghogoijjaiccaa.Mem Go.Proofs.Ytghogoijjaiccaa.Bt Go.Proofs.Ytghogoijjaiccaa.Wi Go.Proofs.Ytghogoijjaiccaa.Sha
open Go.Proofs.Ytghogoijjaiccaa.Tg (bytesOf bytesOf_length bytesOf_lt bytesOf_inj Rd Rd.below Parts tagD)
open Go.Proofs.Ytghogoijjaiccaa.Ep (H32 zh zh_ok Has h_len szH zH fitH allH)
set_option linter.unusedVariables false
set_option linter.unusedSimpArgs false

/-- What holds while a name's letters are gone through. -/
structure ArRel (w : World) (s : ByteArray) (I : Nat) (wr : World) : Prop where
  ex : ∃ pos, pos ≤ s.size ∧ wr.heap[I]? = some (.stringIter s pos) ∧ ∀ j, j < pos → 97 ≤ (bytesOf s).getD j 0 ∧ (bytesOf s).getD j 0 ≤ 122
  bel : Below w.heap.size w wr
set_option maxHeartbeats 4000000 in
set_option maxRecDepth 100000 in
theorem aright_any (a : Acct) (w : World) :
    Calls Try.prog 35 #[.agg (acs a).toArray] w fun e w' => e = .returned (.bool (decide (NRt a.nm))) ∧ Below w.heap.size w w' := by
  obtain ⟨v, hv⟩ : ∃ v, v = decide (NRt a.nm) := ⟨_, rfl⟩
  rw [← hv]
  obtain ⟨s, hs⟩ : ∃ s, s = a.nm := ⟨_, rfl⟩
  rw [← hs] at hv
  have c0 : (acs a)[0]? = some (.string s) := by rw [hs]; rfl
  have HV := Lib.hid hv
  have C0 := Lib.hid c0
  clear hv hs c0
  by_cases h0 : s.size < 1
  · have d1 : decide ((s.size : Int) < 1) = true := decide_eq_true (by omega)
    have d1' : decide (s.size < 1) = true := decide_eq_true (by omega)
    have HQ : Hid (v = false) := Lib.hid (by rw [HV.out]; exact decide_eq_false (fun g => by have := g.1; omega))
    clear h0
    go_enter Try.func35, Try.ntmps35
    go_wp2_with (first
      | ((with_reducible refine at_slot 1 ?_); (refine arm_box (o := ⟨some 1, _, _, _, _, _⟩) rfl _ _ rfl (acs a) rfl ?_); intro X w1 Xe hw1 nw1; have hc := hw1.cell C0.out))
    rw [HQ.out]
    go_ret
    exact ⟨rfl, nw1.below⟩
  by_cases h1 : 8 < s.size
  · have d1 : decide ((s.size : Int) < 1) = false := decide_eq_false (by omega)
    have d1' : decide (s.size < 1) = false := decide_eq_false (by omega)
    have d2 : decide ((8 : Int) < (s.size : Int)) = true := decide_eq_true (by omega)
    have d2' : decide (8 < s.size) = true := decide_eq_true (by omega)
    have HQ : Hid (v = false) := Lib.hid (by rw [HV.out]; exact decide_eq_false (fun g => by have := g.2.1; omega))
    clear h0 h1
    go_enter Try.func35, Try.ntmps35
    go_wp2_with (first
      | ((with_reducible refine at_slot 1 ?_); (refine arm_box (o := ⟨some 1, _, _, _, _, _⟩) rfl _ _ rfl (acs a) rfl ?_); intro X w1 Xe hw1 nw1; have hc := hw1.cell C0.out))
    rw [HQ.out]
    go_ret
    exact ⟨rfl, nw1.below⟩
  have d1 : decide ((s.size : Int) < 1) = false := decide_eq_false (by omega)
  have d1' : decide (s.size < 1) = false := decide_eq_false (by omega)
  have d2 : decide ((8 : Int) < (s.size : Int)) = false := decide_eq_false (by omega)
  have d2' : decide (8 < s.size) = false := decide_eq_false (by omega)
  have HS : Hid (1 ≤ s.size ∧ s.size ≤ 8) := Lib.hid ⟨by omega, by omega⟩
  clear h0 h1
  go_enter Try.func35, Try.ntmps35
  go_wp2_with (first
    | ((with_reducible refine at_slot 1 ?_); (refine arm_box (o := ⟨some 1, _, _, _, _, _⟩) rfl _ _ rfl (acs a) rfl ?_); intro X w1 Xe hw1 nw1; have hc := hw1.cell C0.out)
    | ((with_reducible refine at_slot 17 ?_); (refine arm_range (o := ⟨some 17, _, _, _, _, _⟩) rfl _ _ rfl s rfl (by kernel_rfl) ?_); intro I w2 Ie hit nw2))
  have bel : Below w.heap.size w w2 := below_step nw1.below nw1.below.size nw2.below
  have hI : w.heap.size ≤ I := by have := Ie.out; have := nw1.below.size; omega
  have h0 : ArRel w s I w2 := ⟨⟨0, by omega, hit, fun j hj => by omega⟩, bel⟩
  clear hw1 nw1 nw2 Xe Ie hc hit bel d1 d1' d2 d2'
  simp only [Act.put, List.setIfInBounds_toArray, List.set_cons_zero, List.set_cons_succ]
  go_loopw [4] (fun _ wr => ArRel w s I wr) (fun _ wr => s.size - wr.iterPos I)
  case atStart => exact h0
  case round =>
    clear h0
    obtain ⟨⟨pos, hp, hit, hall⟩, bel⟩ := hrel
    have HA := Lib.hid hall
    clear hall
    by_cases hq : pos < s.size
    · obtain ⟨x, hx⟩ : ∃ x, x = (bytesOf s).getD pos 0 := ⟨_, rfl⟩
      by_cases ha : x < 128
      · have hnx : ∀ ty, (Instr.next (.pointer (some ⟨I, 0, none⟩)) true ty).run Try.prog wr = .ok (.tuple #[.bool true, .int .i64 pos, .int .i32 (x : Int)]) (wr.iterAt I s (pos + 1)) := fun ty => by
          have h := Lib.run_next_ascii_at (P := Try.prog) wr I s pos ty hit hq (by rw [← byte_getD s pos hq, ← hx]; exact ha)
          rw [← byte_getD s pos hq, ← hx] at h
          exact h
        have hit2 := Lib.iterAt_heap wr I s pos (pos + 1) hit
        have bel2 := Lib.below_iterAt bel hI s (pos + 1)
        generalize wr.iterAt I s (pos + 1) = wn at hnx hit2 bel2
        have hm : s.size - wr.iterPos I = s.size - pos := by rw [show wr.iterPos I = pos by unfold World.iterPos; rw [hit]]
        have hm2 : s.size - wn.iterPos I = s.size - (pos + 1) := by rw [show wn.iterPos I = pos + 1 by unfold World.iterPos; rw [hit2]]
        have HM : Hid (s.size - wn.iterPos I < s.size - wr.iterPos I) := Lib.hid (by omega)
        have HIT := Lib.hid hit2
        have HX := Lib.hid hx; have HQQ := Lib.hid hq
        clear hm hm2 hit hit2 hx bel
        by_cases hb : x < 97
        · have e1 : decide ((x : Int) < 97) = true := decide_eq_true (by omega)
          have e1' : decide (x < 97) = true := decide_eq_true hb
          have HQ : Hid (v = false) := Lib.hid (by rw [HV.out]; exact decide_eq_false (fun g => by have := lets_at g.2.2 HQQ.out; rw [← HX.out] at this; omega))
          clear hb
          go_wp2_with fail
          rw [HQ.out]
          go_ret
          exact ⟨rfl, bel2⟩
        · have e1 : decide ((x : Int) < 97) = false := decide_eq_false (by omega)
          have e1' : decide (x < 97) = false := decide_eq_false hb
          by_cases hb2 : 122 < x
          · have e2 : decide ((122 : Int) < (x : Int)) = true := decide_eq_true (by omega)
            have e2' : decide (122 < x) = true := decide_eq_true hb2
            have HQ : Hid (v = false) := Lib.hid (by rw [HV.out]; exact decide_eq_false (fun g => by have := lets_at g.2.2 HQQ.out; rw [← HX.out] at this; omega))
            clear hb hb2
            go_wp2_with fail
            rw [HQ.out]
            go_ret
            exact ⟨rfl, bel2⟩
          · have e2 : decide ((122 : Int) < (x : Int)) = false := decide_eq_false (by omega)
            have e2' : decide (122 < x) = false := decide_eq_false hb2
            have HN : Hid (∀ j, j < pos + 1 → 97 ≤ (bytesOf s).getD j 0 ∧ (bytesOf s).getD j 0 ≤ 122) := Lib.hid fun j hj => by
              rcases Nat.lt_or_ge j pos with h | h
              · exact HA.out j h
              · obtain rfl : j = pos := by omega
                rw [← HX.out]; omega
            clear hb hb2
            go_wp2_with fail
            go_roundw
            case rel => exact ⟨⟨pos + 1, HQQ.out, HIT.out, HN.out⟩, bel2⟩
            case measure => exact HM.out
      · have hfar := high_far (s := s) hq (by rw [← hx]; omega)
        have hnx : ∀ ty, (Instr.next (.pointer (some ⟨I, 0, none⟩)) true ty).run Try.prog wr = _ := fun ty => Lib.run_next_any_at (P := Try.prog) wr I s pos ty hit hq
        obtain ⟨c, hc⟩ : ∃ c, c = (Utf8.decode s pos).1 := ⟨_, rfl⟩
        rw [← hc] at hfar hnx
        have bel2 := Lib.below_iterAt bel hI s (pos + (Utf8.decode s pos).2)
        generalize wr.iterAt I s (pos + (Utf8.decode s pos).2) = wn at hnx bel2
        have HQ : Hid (v = false) := Lib.hid (by rw [HV.out]; exact decide_eq_false (fun g => by have := lets_at g.2.2 hq; rw [← hx] at this; omega))
        have e1 : decide ((c : Int) < 97) = false := decide_eq_false (by omega)
        have e1' : decide (c < 97) = false := decide_eq_false (by omega)
        have e2 : decide ((122 : Int) < (c : Int)) = true := decide_eq_true (by omega)
        have e2' : decide (122 < c) = true := decide_eq_true (by omega)
        clear hc hx hit bel hfar ha
        go_wp2_with fail
        rw [HQ.out]
        go_ret
        exact ⟨rfl, bel2⟩
    · have hnx : ∀ ty, (Instr.next (.pointer (some ⟨I, 0, none⟩)) true ty).run Try.prog wr = _ := fun ty => Lib.run_next_end_at (P := Try.prog) wr I s pos ty hit hq
      have HQ : Hid (v = true) := Lib.hid (by rw [HV.out]; exact decide_eq_true ⟨HS.out.1, HS.out.2, lets_all (fun j hj => HA.out j (by omega))⟩)
      clear hit
      go_wp2_with fail
      rw [HQ.out]
      go_ret
      exact ⟨rfl, bel⟩
/-- What holds in the document's loop over a name's bytes. -/
structure RrRel (w : World) (X : Nat) (a : Acct) (i : Value) (wr : World) : Prop where
  ex : ∃ k : Nat, k ≤ a.nm.size ∧ i = .int .i64 (k : Int) ∧ ∀ j, j < k → 97 ≤ (bytesOf a.nm).getD j 0 ∧ (bytesOf a.nm).getD j 0 ≤ 122
  same : w = wr
set_option maxHeartbeats 4000000 in
set_option maxRecDepth 100000 in
theorem rright_any (a : Acct) (w : World) :
    Calls Try.prog 37 #[.agg (acs a).toArray] w fun e w' => e = .returned (.bool (decide (NRt a.nm))) ∧ Below w.heap.size w w' := by
  obtain ⟨v, hv⟩ : ∃ v, v = decide (NRt a.nm) := ⟨_, rfl⟩
  rw [← hv]
  obtain ⟨s, hs⟩ : ∃ s, s = a.nm := ⟨_, rfl⟩
  rw [← hs] at hv
  have c0 : (acs a)[0]? = some (.string s) := by rw [hs]; rfl
  have HV := Lib.hid hv
  have C0 := Lib.hid c0
  have HE := Lib.hid hs
  clear hv hs c0
  by_cases h0 : s.size < 1
  · have d1 : decide ((s.size : Int) < 1) = true := decide_eq_true (by omega)
    have d1' : decide (s.size < 1) = true := decide_eq_true (by omega)
    have HQ : Hid (v = false) := Lib.hid (by rw [HV.out]; exact decide_eq_false (fun g => by have := g.1; omega))
    clear h0
    go_enter Try.func37, Try.ntmps37
    go_wp2_with (first
      | ((with_reducible refine at_slot 1 ?_); (refine arm_box (o := ⟨some 1, _, _, _, _, _⟩) rfl _ _ rfl (acs a) rfl ?_); intro X w1 Xe hw1 nw1; have hc := hw1.cell C0.out))
    rw [HQ.out]
    go_ret
    exact ⟨rfl, nw1.below⟩
  by_cases h1 : 8 < s.size
  · have d1 : decide ((s.size : Int) < 1) = false := decide_eq_false (by omega)
    have d1' : decide (s.size < 1) = false := decide_eq_false (by omega)
    have d2 : decide ((8 : Int) < (s.size : Int)) = true := decide_eq_true (by omega)
    have d2' : decide (8 < s.size) = true := decide_eq_true (by omega)
    have HQ : Hid (v = false) := Lib.hid (by rw [HV.out]; exact decide_eq_false (fun g => by have := g.2.1; omega))
    clear h0 h1
    go_enter Try.func37, Try.ntmps37
    go_wp2_with (first
      | ((with_reducible refine at_slot 1 ?_); (refine arm_box (o := ⟨some 1, _, _, _, _, _⟩) rfl _ _ rfl (acs a) rfl ?_); intro X w1 Xe hw1 nw1; have hc := hw1.cell C0.out))
    rw [HQ.out]
    go_ret
    exact ⟨rfl, nw1.below⟩
  have d1 : decide ((s.size : Int) < 1) = false := decide_eq_false (by omega)
  have d1' : decide (s.size < 1) = false := decide_eq_false (by omega)
  have d2 : decide ((8 : Int) < (s.size : Int)) = false := decide_eq_false (by omega)
  have d2' : decide (8 < s.size) = false := decide_eq_false (by omega)
  have HS : Hid (1 ≤ s.size ∧ s.size ≤ 8) := Lib.hid ⟨by omega, by omega⟩
  have hM : s.size ≤ 8 := by omega
  clear h0 h1
  go_enter Try.func37, Try.ntmps37
  go_wp2_with (first
    | ((with_reducible refine at_slot 1 ?_); (refine arm_box (o := ⟨some 1, _, _, _, _, _⟩) rfl _ _ rfl (acs a) rfl ?_); intro X w1 Xe hw1 nw1; have hc := hw1.cell C0.out))
  have bel := nw1.below
  have h0 : RrRel w1 X a (.int .i64 0) w1 := ⟨⟨0, by omega, rfl, fun j hj => by omega⟩, rfl⟩
  clear nw1 Xe hw1 d1 d1' d2 d2'
  go_loopw [3] (fun i wr => RrRel w1 X a i wr) (fun i _ => s.size - (intOf i).toNat)
  case atStart => exact h0
  case round =>
    clear h0
    obtain ⟨⟨k, hk, rfl, hall⟩, rfl⟩ := hrel
    rw [← HE.out] at hk hall
    have HA := Lib.hid hall
    clear hall
    by_cases hq : k < s.size
    · obtain ⟨x, hx⟩ : ∃ x, x = (bytesOf s).getD k 0 := ⟨_, rfl⟩
      have HX := Lib.hid hx
      have ik : (k : Int) < (s.size : Int) := by omega
      have HQQ := Lib.hid hq
      clear hx
      by_cases hb : x < 97
      · have e1 : decide ((x : Int) < 97) = true := decide_eq_true (by omega)
        have e1' : decide (x < 97) = true := decide_eq_true hb
        have HQ : Hid (v = false) := Lib.hid (by rw [HV.out]; exact decide_eq_false (fun g => by have := lets_at g.2.2 HQQ.out; rw [← HX.out] at this; omega))
        clear hb
        go_wp2_with (first
          | ((with_reducible refine at_slot 24 ?_); (refine arm_indexS (o := ⟨some 24, _, _, _, _, _⟩) rfl _ _ _ rfl (by kernel_rfl) s rfl .i64 k rfl HQQ.out x HX.out.symm ?_)))
        rw [HQ.out]
        go_ret
        exact ⟨rfl, bel⟩
      · have e1 : decide ((x : Int) < 97) = false := decide_eq_false (by omega)
        have e1' : decide (x < 97) = false := decide_eq_false hb
        by_cases hb2 : 122 < x
        · have e2 : decide ((122 : Int) < (x : Int)) = true := decide_eq_true (by omega)
          have e2' : decide (122 < x) = true := decide_eq_true hb2
          have HQ : Hid (v = false) := Lib.hid (by rw [HV.out]; exact decide_eq_false (fun g => by have := lets_at g.2.2 HQQ.out; rw [← HX.out] at this; omega))
          clear hb hb2
          go_wp2_with (first
            | ((with_reducible refine at_slot 24 ?_); (refine arm_indexS (o := ⟨some 24, _, _, _, _, _⟩) rfl _ _ _ rfl (by kernel_rfl) s rfl .i64 k rfl HQQ.out x HX.out.symm ?_))
            | ((with_reducible refine at_slot 30 ?_); (refine arm_want (.int .u8 (x : Int)) 30 rfl (by kernel_rfl) (run_op_indexS _ _ _ rfl (by kernel_rfl) s rfl .i64 k rfl HQQ.out x HX.out.symm _) ?_)))
          rw [HQ.out]
          go_ret
          exact ⟨rfl, bel⟩
        · have e2 : decide ((122 : Int) < (x : Int)) = false := decide_eq_false (by omega)
          have e2' : decide (122 < x) = false := decide_eq_false hb2
          have HN : Hid (∀ j, j < k + 1 → 97 ≤ (bytesOf s).getD j 0 ∧ (bytesOf s).getD j 0 ≤ 122) := Lib.hid fun j hj => by
            rcases Nat.lt_or_ge j k with h | h
            · exact HA.out j h
            · obtain rfl : j = k := by omega
              rw [← HX.out]; omega
          clear hb hb2
          have hk8 : k < 8 := by omega
          go_wp2_with (first
            | ((with_reducible refine at_slot 24 ?_); (refine arm_indexS (o := ⟨some 24, _, _, _, _, _⟩) rfl _ _ _ rfl (by kernel_rfl) s rfl .i64 k rfl HQQ.out x HX.out.symm ?_))
            | ((with_reducible refine at_slot 30 ?_); (refine arm_want (.int .u8 (x : Int)) 30 rfl (by kernel_rfl) (run_op_indexS _ _ _ rfl (by kernel_rfl) s rfl .i64 k rfl HQQ.out x HX.out.symm _) ?_)))
          go_roundw
          case rel => exact ⟨⟨k + 1, by rw [← HE.out]; exact HQQ.out, by go_num, by rw [← HE.out]; exact HN.out⟩, rfl⟩
          case measure => simp [intOf]; omega
    · obtain rfl : k = s.size := by omega
      have HQ : Hid (v = true) := Lib.hid (by rw [HV.out]; exact decide_eq_true ⟨HS.out.1, HS.out.2, lets_all (fun j hj => HA.out j hj)⟩)
      go_wp2_with fail
      rw [HQ.out]
      go_ret
      exact ⟨rfl, bel⟩
end Go.Proofs.Ytghogoijjaiccaa.Ac

/-
  The contracts of package account's Bytes, Hash and None. Over this seat's translation.
-/
namespace Go.Proofs.Ytghogoijjaiccaa.Ac
open Go.ChangeShapes Go.WideShapes Go.ChangeAt Go.RowKit Go.Proofs.Ytghogoijjaiccaa.Mem Go.Proofs.Ytghogoijjaiccaa.Bt Go.Proofs.Ytghogoijjaiccaa.Wi Go.Proofs.Ytghogoijjaiccaa.Sha
open Go.Proofs.Ytghogoijjaiccaa.Tg (bytesOf bytesOf_length bytesOf_lt bytesOf_inj Rd Rd.below Parts tagD)
open Go.Proofs.Ytghogoijjaiccaa.Ep (H32 zh zh_ok Has h_len szH zH fitH allH)
set_option linter.unusedVariables false
set_option linter.unusedSimpArgs false

/-- What Bytes answers: the bytes, what goes wrong. -/
def ansB (a : Acct) : List Nat := if NRt a.nm then accB a else []
def ansE (a : Acct) : Nat := if NRt a.nm then 0 else 1
theorem ansB_len (a : Acct) : (ansB a).length ≤ 21 := by
  unfold ansB
  split
  · rename_i h
    have := h.2.1
    rw [accB_len]; omega
  · simp
structure BytesPost (w : World) (a : Acct) (e : Ending) (w' : World) : Prop where
  ex : ∃ q c, e = .returned (.tuple #[.slice q (ansB a).length c, .int .i64 (ansE a : Int)]) ∧ Bt.Own w' w.heap.size q c (ansB a)
  bel : Below w.heap.size w w'
theorem wText_at (ys : List Nat) (n : Nat) (hn : n = ys.length) (y : Option Addr) (yc : Nat) (base W : Nat) (p : Option Addr) (cap : Nat) (bs : List Nat) (w : World) (h : Wr w base W p cap bs) (hb : base ≤ w.heap.size) (hl : bs.length ≤ 900000)
    (hy : Rd w y ys) (hyn : y = none → ys.length = 0 ∧ yc = 0) (hyb : ys ≠ [] → Sep p y) (hm : ys.length ≤ maxLen) :
    Calls Try.prog 20 #[.pointer (some ⟨W, 0, none⟩), .slice y n yc] w (WrPost w base W p (.bool (decide (ys.length ≤ 255))) (bs ++ txt ys)) := by
  subst hn
  exact wText_any ys y yc base W p cap bs w h hb hl hy hyn hyb hm
theorem accB_txt {a : Acct} (h : a.nm.size ≤ 8) : [] ++ txt (bytesOf a.nm) ++ put a.bal 8 ++ put a.non 4 = accB a := by
  unfold accB txt
  rw [if_pos (by rw [bytesOf_length]; omega), List.nil_append, bytesOf_length]
set_option maxHeartbeats 4000000 in
set_option maxRecDepth 100000 in
theorem abytes_any (a : Acct) (w : World) (k : a.Ok) :
    Calls Try.prog 19 #[.agg (acs a).toArray] w (BytesPost w a) := by
  have KB := Lib.hid k
  have CR := Lib.hid (fun w0 => aright_any a w0)
  clear k
  by_cases hr : NRt a.nm
  · have HR := Lib.hid hr
    have HB : Hid (ansB a = accB a) := Lib.hid (by unfold ansB; rw [if_pos hr])
    have HE : Hid (ansE a = 0) := Lib.hid (by unfold ansE; rw [if_pos hr])
    rw [decide_eq_true hr] at CR
    have c0 : (acs a)[0]? = some (.string a.nm) := rfl
    have c1 : (acs a)[1]? = some (.int .u64 (a.bal : Int)) := rfl
    have c2 : (acs a)[2]? = some (.int .u32 (a.non : Int)) := rfl
    have C0 := Lib.hid c0; have C1 := Lib.hid c1; have C2 := Lib.hid c2
    have hs8 := hr.2.1
    have HT := Lib.hid (accB_txt hs8)
    have HTL := Lib.hid (txt_len (bytesOf a.nm))
    obtain ⟨s, hs⟩ : ∃ s, s = a.nm := ⟨_, rfl⟩
    rw [← hs] at C0 HT hs8 HTL
    have KBAL := Lib.hid KB.out.bal; have KNON := Lib.hid KB.out.non
    obtain ⟨u, hu⟩ : ∃ u, u = a.bal := ⟨_, rfl⟩
    obtain ⟨n, hn⟩ : ∃ n, n = a.non := ⟨_, rfl⟩
    rw [← hu] at C1 HT KBAL
    rw [← hn] at C2 HT KNON
    have HSL := Lib.hid (show s.size = (bytesOf s).length from (bytesOf_length s).symm)
    clear hr hs hu hn c0 c1 c2
    go_enter Try.func19, Try.ntmps19
    go_wp2_with (first
      | ((with_reducible refine at_slot 1 ?_); (refine arm_box (o := ⟨some 1, _, _, _, _, _⟩) rfl _ _ rfl (acs a) rfl ?_); intro X w1 Xe hw1 nw1)
      | ((with_reducible refine at_slot 5 ?_); (refine arm_load (o := ⟨some 5, _, _, _, _, _⟩) rfl _ _ rfl X 0 rfl (acs a) ((Has.refl _).range hw1) (sz_acc a) ?_)))
    refine (CR.out w1).mono ?_
    rintro e w2 ⟨rfl, hB2⟩
    have hX2 := hw1.old hB2
    have bel2 : Below w.heap.size w w2 := below_step nw1.below nw1.below.size hB2
    have hwX : w.heap.size ≤ X := by have := Xe.out; omega
    clear hw1 nw1 Xe hB2
    go_wp2_with (first
      | ((with_reducible refine at_slot 4 ?_); (refine arm_alloc (o := ⟨some 4, _, _, _, _, _⟩) rfl _ rfl [.slice none 0 0] zero_wr ?_); intro W w3 We hw3 nw3; have hc0 := (hX2.old nw3.below).cell C0.out)
      | ((with_reducible refine at_slot 10 ?_); (refine arm_strBytes (o := ⟨some 10, _, _, _, _, _⟩) rfl _ _ 5 _ rfl s rfl (by kernel_rfl) (by kernel_rfl) (by kernel_rfl) ?_); intro b bc w4 be hb4 nw4))
    have eW := We.out; have eb := be.out; have z3 := nw3.size; have z4 := nw4.size; have lX := hX2.lt; have z2 := bel2.size
    have hX4 : Row w4 X 38 (acs a) := (hX2.old nw3.below).old nw4.below
    have bel4 : Below w.heap.size w w4 := below_step (below_step bel2 z2 nw3.below) (by omega) nw4.below
    have hWr4 : Wr w4 w.heap.size W none 0 [] := (wr_new hw3 (by omega)).old nw4.below
    have HXW := Lib.hid (show X ≠ W by omega)
    have HRD : Hid (Rd w4 (some ⟨b, 0, none⟩) (bytesOf s)) := Lib.hid ⟨fun _ => ⟨b, 0, rfl, hb4⟩⟩
    clear hc0 hX2 hw3 nw3 nw4 hb4 eW eb z3 z4 lX We be bel2 z2
    refine (wText_at (bytesOf s) s.size HSL.out (some ⟨b, 0, none⟩) bc w.heap.size W none 0 [] w4 hWr4 bel4.size (by simp) HRD.out (fun h => by cases h) (fun _ => sep_none' _) (by rw [← HSL.out]; unfold maxLen; omega)).mono ?_
    rintro e w5 ⟨rfl, q5, c5, hW5, hS5⟩
    have hX5 : Row w5 X 38 (acs a) := row_step hX4 hWr4 hS5 HXW.out
    have bel5 : Below w.heap.size w w5 := bel4.trans (hWr4.below hS5 bel4.size)
    have hc1 := hX5.cell C1.out
    have HW5 := Lib.hid hW5
    clear hX4 hWr4 hS5 bel4 hW5 HRD
    go_wp2_with fail
    refine (wLong_any u w.heap.size W q5 c5 _ w5 HW5.out bel5.size (by have := HTL.out; rw [List.nil_append]; omega) KBAL.out).mono ?_
    rintro e w6 ⟨rfl, q6, c6, hW6, hS6⟩
    have hX6 : Row w6 X 38 (acs a) := row_step hX5 HW5.out hS6 HXW.out
    have bel6 : Below w.heap.size w w6 := bel5.trans (HW5.out.below hS6 bel5.size)
    have hc2 := hX6.cell C2.out
    have HW6 := Lib.hid hW6
    clear hX5 hS6 bel5 hW6 hc1 HW5
    go_wp2_with fail
    refine (wNum_any n w.heap.size W q6 c6 _ w6 HW6.out bel6.size (by have := HTL.out; rw [List.nil_append, List.length_append, put_length]; omega) KNON.out).mono ?_
    rintro e w7 ⟨rfl, q7, c7, hW7, hS7⟩
    have bel7 : Below w.heap.size w w7 := bel6.trans (HW6.out.below hS7 bel6.size)
    rw [HT.out] at hW7
    have HW7 := Lib.hid hW7
    clear hX6 hS7 bel6 hW7 hc2 HW6
    have HAL : Hid ((accB a).length ≤ 1000000) := Lib.hid (by rw [← HB.out]; have := ansB_len a; omega)
    have HB2 := HB.out
    rw [HB2.symm] at HW7 HAL
    have CWB := Lib.hid (wBytes_any w.heap.size W q7 c7 _ w7 HW7.out HAL.out)
    generalize hbb : ansB a = bb at CWB ⊢
    have HBB := Lib.hid hbb
    clear hbb HAL HB2
    go_wp2_with fail
    refine CWB.out.mono ?_
    rintro e w8 ⟨⟨q, c, rfl, hO⟩, hB8⟩
    have bel8 : Below w.heap.size w w8 := below_step bel7 bel7.size hB8
    have HO := Lib.hid (own_mono hO bel7.size)
    clear hO hB8 bel7
    go_wp2_with fail
    go_ret2
    exact ⟨⟨q, c, by rw [HE.out, HBB.out]; rfl, by rw [HBB.out]; exact HO.out⟩, bel8⟩
  · have HB : Hid (ansB a = []) := Lib.hid (by unfold ansB; rw [if_neg hr])
    have HE : Hid (ansE a = 1) := Lib.hid (by unfold ansE; rw [if_neg hr])
    rw [decide_eq_false hr] at CR
    clear hr
    go_enter Try.func19, Try.ntmps19
    go_wp2_with (first
      | ((with_reducible refine at_slot 1 ?_); (refine arm_box (o := ⟨some 1, _, _, _, _, _⟩) rfl _ _ rfl (acs a) rfl ?_); intro X w1 Xe hw1 nw1)
      | ((with_reducible refine at_slot 5 ?_); (refine arm_load (o := ⟨some 5, _, _, _, _, _⟩) rfl _ _ rfl X 0 rfl (acs a) ((Has.refl _).range hw1) (sz_acc a) ?_)))
    refine (CR.out w1).mono ?_
    rintro e w2 ⟨rfl, hB2⟩
    have bel2 : Below w.heap.size w w2 := below_step nw1.below nw1.below.size hB2
    clear hw1 nw1 Xe hB2
    go_wp2_with fail
    go_ret2
    exact ⟨⟨none, 0, by rw [HE.out, HB.out]; rfl, by rw [HB.out]; exact own_nil _ _⟩, bel2⟩
/-- The name 'account'. -/
def nameA : ByteArray := ⟨#[97, 99, 99, 111, 117, 110, 116]⟩
/-- The name 'empty'. -/
def nameE : ByteArray := ⟨#[101, 109, 112, 116, 121]⟩
/-- An account's digest; the digest of no account. -/
def digA (a : Acct) : List Nat := tagD nameA [accB a]
def digE : List Nat := tagD nameE []
end Go.Proofs.Ytghogoijjaiccaa.Ac

/-
  The contract of package account's Read. Over this seat's translation.
-/
namespace Go.Proofs.Ytghogoijjaiccaa.Ac
open Go.ChangeShapes Go.WideShapes Go.ChangeAt Go.RowKit Go.Proofs.Ytghogoijjaiccaa.Mem Go.Proofs.Ytghogoijjaiccaa.Bt Go.Proofs.Ytghogoijjaiccaa.Wi Go.Proofs.Ytghogoijjaiccaa.Sha
open Go.Proofs.Ytghogoijjaiccaa.Tg (bytesOf bytesOf_length bytesOf_lt bytesOf_inj Rd Rd.below Parts tagD)
open Go.Proofs.Ytghogoijjaiccaa.Ep (H32 zh zh_ok Has h_len szH zH fitH allH)
set_option linter.unusedVariables false
set_option linter.unusedSimpArgs false

/-- What Read leaves. -/
structure ReadPost (w : World) (b : List Nat) (e : Ending) (w' : World) : Prop where
  ret : e = .returned (.tuple #[.agg (acs (rdA b).1).toArray, .int .i64 ((rdA b).2 : Int)])
  bel : Below w.heap.size w w'
theorem rdA_bad {b : List Nat} (h : eR b ≠ 0) : rdA b = (za, eR b) := by unfold rdA; rw [if_pos h]
theorem rdA_form {b : List Nat} (h : eR b = 0) (hc : ¬ NRt (accR b).nm) : rdA b = (za, 2) := by unfold rdA; rw [if_neg (fun g => g h), if_neg hc]
theorem rdA_good {b : List Nat} (h : eR b = 0) (hc : NRt (accR b).nm) : rdA b = (accR b, 0) := by unfold rdA; rw [if_neg (fun g => g h), if_pos hc]
theorem text_left (m : Int) (s : RS) : (textR m s).2.1.length ≤ s.1.length := by
  unfold textR
  split
  · exact Nat.zero_le _
  · exact Nat.le_trans (takeR_left _ _) (takeR_left 1 s)
theorem q_left (b : List Nat) : (q1 b).2.1.length ≤ b.length ∧ (q2 b).2.1.length ≤ b.length := by
  have h1 : (q1 b).2.1.length ≤ b.length := text_left 8 (b, 0)
  have h2 : (q2 b).2.1.length ≤ (q1 b).2.1.length := takeR_left 8 (q1 b).2
  exact ⟨h1, Nat.le_trans h2 h1⟩
set_option maxHeartbeats 4000000 in
set_option maxRecDepth 100000 in
theorem aread_any (b : List Nat) (p : Option Addr) (cap : Nat) (w : World) (hp : Rd w p b) (hn : p = none → b.length = 0 ∧ cap = 0) (hl : b.length ≤ 1000000) (hlt : AllLt 256 b) :
    Calls Try.prog 76 #[.slice p b.length cap] w (ReadPost w b) := by
  have CN := Lib.hid (fun w0 (h : Rd w0 p b) => rNew_any b p cap w0 h hn hl hlt)
  have HP := Lib.hid hp
  have hq := q_left b
  have HLT := Lib.hid (q_lt hlt).1
  have CT : Hid (∀ R d w0, RdAt w0 R d (b, 0) → Calls Try.prog 74 #[.pointer (some ⟨R, 0, none⟩), .int .i64 8] w0 (TextPost w0 R d (q1 b).1 (q1 b).2)) := Lib.hid fun R d w0 h => rText_any 8 R d (b, 0) w0 h hl
  have CL : Hid (∀ R d w0, RdAt w0 R d (q1 b).2 → Calls Try.prog 84 #[.pointer (some ⟨R, 0, none⟩)] w0 (RdPost w0 R d (.int .u64 ((q2 b).1 : Int)) (q2 b).2)) := Lib.hid fun R d w0 h => rLong_any R d (q1 b).2 w0 h (by omega)
  have CM : Hid (∀ R d w0, RdAt w0 R d (q2 b).2 → Calls Try.prog 70 #[.pointer (some ⟨R, 0, none⟩)] w0 (RdPost w0 R d (.int .u32 ((q3 b).1 : Int)) (q3 b).2)) := Lib.hid fun R d w0 h => rNum_any R d (q2 b).2 w0 h (by omega)
  have CE : Hid (∀ R d w0, RdAt w0 R d (q3 b).2 → Calls Try.prog 71 #[.pointer (some ⟨R, 0, none⟩)] w0 fun e w' => e = .returned (.int .i64 (eR b : Int)) ∧ w0 = w') := Lib.hid fun R d w0 h => rEnd_any R d (q3 b).2 w0 h
  have HA : Hid (accR b = ⟨strOf (q1 b).1, (q2 b).1, (q3 b).1⟩) := Lib.hid rfl
  have CR := Lib.hid (fun w0 => aright_any (accR b) w0)
  have HD : Hid ((eR b ≠ 0 → rdA b = (za, eR b)) ∧ (eR b = 0 → ¬ NRt (accR b).nm → rdA b = (za, 2)) ∧ (eR b = 0 → NRt (accR b).nm → rdA b = (accR b, 0))) := Lib.hid ⟨rdA_bad, rdA_form, rdA_good⟩
  obtain ⟨tb, htb⟩ : ∃ x, x = (q1 b).1 := ⟨_, rfl⟩
  obtain ⟨s1, hs1⟩ : ∃ x, x = (q1 b).2 := ⟨_, rfl⟩
  obtain ⟨u, hu⟩ : ∃ x, x = (q2 b).1 := ⟨_, rfl⟩
  obtain ⟨s2, hs2⟩ : ∃ x, x = (q2 b).2 := ⟨_, rfl⟩
  obtain ⟨m, hm⟩ : ∃ x, x = (q3 b).1 := ⟨_, rfl⟩
  obtain ⟨s3, hs3⟩ : ∃ x, x = (q3 b).2 := ⟨_, rfl⟩
  obtain ⟨a, ha⟩ : ∃ x, x = accR b := ⟨_, rfl⟩
  obtain ⟨ee, hee⟩ : ∃ x, x = eR b := ⟨_, rfl⟩
  rw [← htb, ← hs1] at CT
  rw [← hs1, ← hu, ← hs2] at CL
  rw [← hs2, ← hm, ← hs3] at CM
  rw [← hs3, ← hee] at CE
  rw [← ha, ← htb, ← hu, ← hm] at HA
  rw [← ha] at CR
  rw [← ha, ← hee] at HD
  rw [← htb] at HLT
  have BA : Hid (Try.prog.built 38 [(0, .string (strOf tb)), (1, .int .u64 (u : Int)), (2, .int .u32 (m : Int))] = some (acs a).toArray) := Lib.hid (by rw [HA.out]; exact built_acc _ _ _)
  clear hp hn hl hlt hq htb hs1 hu hs2 hm hs3 ha hee HA
  go_enter Try.func76, Try.ntmps76
  go_wp2_with (first
    | ((with_reducible refine at_slot 2 ?_); (refine arm_alloc (o := ⟨some 2, _, _, _, _, _⟩) rfl _ rfl (acs za) z_acc ?_); intro Z w1 Ze hw1 nw1))
  refine (CN.out w1 (HP.out.below nw1.below)).mono ?_
  rintro e w2 ⟨⟨R, d, rfl, hA2, hR2, hd2⟩, hB2⟩
  have hZ2 := hw1.old hB2
  have bel2 : Below w.heap.size w w2 := below_step nw1.below nw1.below.size hB2
  have hZR : Z ≠ R := by have := Ze.out; have := nw1.size; omega
  have hwR : w.heap.size ≤ R := by have := nw1.below.size; omega
  have hwZ : w.heap.size ≤ Z := by have := Ze.out; omega
  clear hw1 nw1 hB2 hR2 hd2 Ze
  go_wp2_with fail
  go_cut [5] (fun v wx => ∃ N : Nat, v = .pointer (some ⟨N, 0, none⟩) ∧ Row wx N 38 (acs a) ∧ RdAt wx R d s3 ∧ Row wx Z 38 (acs za) ∧ Below w.heap.size w wx ∧ w.heap.size ≤ N ∧ N ≠ Z)
  case first =>
    refine wp_region_held (S := fun w' => True) (by kernel_rfl) ?_
    change wpAnyH _ _ _ _ _ _ _ _ w2.drew
    have hA0 : RdAt w2.drew R d (b, 0) := hA2.old ((Below.refl w2.heap.size w2).drew)
    have hZ0 : Row w2.drew Z 38 (acs za) := hZ2
    have b0 : Below w.heap.size w w2.drew := bel2.trans ((Below.refl _ _).drew)
    generalize w2.drew = y0 at hA0 hZ0 b0 ⊢
    clear hA2 hZ2 bel2
    refine h_take 0 (.pointer (some ⟨R, 0, none⟩)) rfl 9 rfl (by kernel_rfl) (by kernel_rfl) (by kernel_rfl) (by kernel_rfl) (fun _ _ _ h => h) (fun w' _ => by kernel_rfl) True.intro ?_
    simp only [Act.put, List.setIfInBounds_toArray, List.set_cons_zero, List.set_cons_succ]
    refine h_take 3 (.pointer (some ⟨R, 0, none⟩)) rfl 12 rfl (by kernel_rfl) (by kernel_rfl) (by kernel_rfl) (by kernel_rfl) (fun _ _ _ h => h) (fun w' _ => by kernel_rfl) True.intro ?_
    simp only [Act.put, List.setIfInBounds_toArray, List.set_cons_zero, List.set_cons_succ]
    refine h_take 5 (.pointer (some ⟨R, 0, none⟩)) rfl 14 rfl (by kernel_rfl) (by kernel_rfl) (by kernel_rfl) (by kernel_rfl) (fun _ _ _ h => h) (fun w' _ => by kernel_rfl) True.intro ?_
    simp only [Act.put, List.setIfInBounds_toArray, List.set_cons_zero, List.set_cons_succ]
    refine h_two (i := 1) (j := 8) (by kernel_rfl) ?_ ?_
    · skip
      refine (o_call rfl 10 rfl (by kernel_rfl) (run_op_call 74 _ _ rfl #[.pointer (some ⟨R, 0, none⟩), .int .i64 8] (by simp only [List.map_toArray, List.map_cons, List.map_nil]; rfl) Try.func74 (by kernel_rfl) (by kernel_rfl) _) (CT.out R d _ hA0) ?_)
      rintro e y1 ⟨⟨q, c, rfl, hr1⟩, hA1, hO⟩
      have hZ1 := hZ0.only hO hZR
      have b1 : Below w.heap.size w y1 := below_only b0 hO hwR b0.size
      clear hO
      refine ⟨_, rfl, True.intro, ?_⟩
      simp only [Act.put, List.setIfInBounds_toArray, List.set_cons_zero, List.set_cons_succ]
      refine h_more (S' := fun w' => Rd w' q tb) (fun _ _ => True.intro) _ _ _ _ ?_
      refine h_take 2 (.string (strOf tb)) rfl 11 rfl (by kernel_rfl) (by kernel_rfl) (by kernel_rfl) (by kernel_rfl) (fun _ _ _ h => h) (fun w' hw => run_op_toStr _ _ 5 _ rfl (by kernel_rfl) (by kernel_rfl) (by kernel_rfl) q tb.length c tb rfl rfl hw.at_ HLT.out) hr1 ?_
      simp only [Act.put, List.setIfInBounds_toArray, List.set_cons_zero, List.set_cons_succ]
      refine h_two (i := 4) (j := 8) (by kernel_rfl) ?_ ?_
      · skip
        refine (o_call rfl 13 rfl (by kernel_rfl) (run_op_call 84 _ _ rfl #[.pointer (some ⟨R, 0, none⟩)] (by simp only [List.map_toArray, List.map_cons, List.map_nil]; rfl) Try.func84 (by kernel_rfl) (by kernel_rfl) _) (CL.out R d _ hA1) ?_)
        rintro e y2 ⟨rfl, hA2, hO⟩
        have hZ2 := hZ1.only hO hZR
        have b2 : Below w.heap.size w y2 := below_only b1 hO hwR b1.size
        have hr2 := hA1.keep_rd hO hr1
        clear hO
        refine ⟨_, rfl, hr2, ?_⟩
        simp only [Act.put, List.setIfInBounds_toArray, List.set_cons_zero, List.set_cons_succ]
        refine h_two (i := 6) (j := 8) (by kernel_rfl) ?_ ?_
        · skip
          refine (o_call rfl 15 rfl (by kernel_rfl) (run_op_call 70 _ _ rfl #[.pointer (some ⟨R, 0, none⟩)] (by simp only [List.map_toArray, List.map_cons, List.map_nil]; rfl) Try.func70 (by kernel_rfl) (by kernel_rfl) _) (CM.out R d _ hA2) ?_)
          rintro e y3 ⟨rfl, hA3, hO⟩
          have hZ3 := hZ2.only hO hZR
          have b3 : Below w.heap.size w y3 := below_only b2 hO hwR b2.size
          have hr3 := hA2.keep_rd hO hr2
          clear hO
          refine ⟨_, rfl, hr3, ?_⟩
          simp only [Act.put, List.setIfInBounds_toArray, List.set_cons_zero, List.set_cons_succ]
          refine h_take 7 (.agg (acs a).toArray) rfl 16 rfl (by kernel_rfl) (by kernel_rfl) (by kernel_rfl) (by kernel_rfl) (fun _ _ _ h => h) (fun w' hw => run_op_build _ _ rfl (acs a) (by simp only [List.map_toArray, List.map_cons, List.map_nil]; exact BA.out) w') hr3 ?_
          simp only [Act.put, List.setIfInBounds_toArray, List.set_cons_zero, List.set_cons_succ]
          refine h_one (i := 8) (by kernel_rfl) (o_value _ rfl 5 rfl (by kernel_rfl) (run_op_alloc _ rfl (acs za) z_acc) ?_)
          have hN4 := new_alloc y3 (.cells (acs za).toArray 38)
          have rN4 : Row (y3.alloc (.cells (acs za).toArray 38)) y3.heap.size 38 (acs za) := heap_alloc_new _ _
          have lN := b3.size; have lR := hA3.row_lt; have ld := hA3.dlt; have lZ := hZ3.lt
          generalize y3.alloc (.cells (acs za).toArray 38) = y4 at hN4 rN4 ⊢
          have hA4 := hA3.old hN4.below; have hZ4 := hZ3.old hN4.below
          have b4 : Below w.heap.size w y4 := below_step b3 b3.size hN4.below
          have hr4 := hr3.below hN4.below
          clear hN4
          refine ⟨hr4, ?_⟩
          generalize y3.heap.size = N at rN4 lN lR ld lZ ⊢
          have nNR : N ≠ R := by omega
          have nNd : N ≠ d := by omega
          have nNZ : N ≠ Z := by omega
          simp only [Act.put, List.setIfInBounds_toArray, List.set_cons_zero, List.set_cons_succ]
          refine h_one (i := 9) (by kernel_rfl) (o_skip rfl rfl (by kernel_rfl) (run_op_store _ _ _ rfl N 0 rfl (acs a) rfl _ _ rN4 (fitA a) (acs_one a) (sz_acc a)) ?_)
          have rf := row_setRow rN4 (lay (acs za) 0 (acs a))
          have of := Only.setRow N y4 (lay (acs za) 0 (acs a)).toArray
          generalize y4.setRow N (lay (acs za) 0 (acs a)).toArray = yf at rf of ⊢
          have hAf : RdAt yf R d s3 := hA4.other of (Ne.symm nNR) (Ne.symm nNd)
          have hZf := hZ4.only of (Ne.symm nNZ)
          have bf : Below w.heap.size w yf := below_only b4 of lN b4.size
          have hrf : Rd yf q tb := Rd_only hr4 rN4 (acs_no za) of
          refine ⟨hrf, ?_⟩
          refine wpAnyH_done (by kernel_rfl) ?_ _
          go_wp2_with fail
          go_meet
          exact ⟨N, rfl, rf.congr (allA a), hAf, hZf, bf, lN, nNZ⟩
        · skip
          refine (o_value _ rfl 5 rfl (by kernel_rfl) (run_op_alloc _ rfl (acs za) z_acc) ?_)
          have hN6 := new_alloc y2 (.cells (acs za).toArray 38)
          have rN6 : Row (y2.alloc (.cells (acs za).toArray 38)) y2.heap.size 38 (acs za) := heap_alloc_new _ _
          have lN := b2.size; have lR := hA2.row_lt; have ld := hA2.dlt; have lZ := hZ2.lt
          generalize y2.alloc (.cells (acs za).toArray 38) = y6 at hN6 rN6 ⊢
          have hA6 := hA2.old hN6.below; have hZ6 := hZ2.old hN6.below
          have b6 : Below w.heap.size w y6 := below_step b2 b2.size hN6.below
          have hr6 := hr2.below hN6.below
          clear hN6
          refine ⟨hr6, ?_⟩
          generalize y2.heap.size = N at rN6 lN lR ld lZ ⊢
          have nNR : N ≠ R := by omega
          have nNd : N ≠ d := by omega
          have nNZ : N ≠ Z := by omega
          simp only [Act.put, List.setIfInBounds_toArray, List.set_cons_zero, List.set_cons_succ]
          refine h_one (i := 6) (by kernel_rfl) (o_call rfl 15 rfl (by kernel_rfl) (run_op_call 70 _ _ rfl #[.pointer (some ⟨R, 0, none⟩)] (by simp only [List.map_toArray, List.map_cons, List.map_nil]; rfl) Try.func70 (by kernel_rfl) (by kernel_rfl) _) (CM.out R d _ hA6) ?_)
          rintro e y7 ⟨rfl, hA7, hO⟩
          have hZ7 := hZ6.only hO hZR
          have b7 : Below w.heap.size w y7 := below_only b6 hO hwR b6.size
          have rN7 := rN6.only hO nNR
          have hr7 := hA6.keep_rd hO hr6
          clear hO
          refine ⟨_, rfl, hr7, ?_⟩
          simp only [Act.put, List.setIfInBounds_toArray, List.set_cons_zero, List.set_cons_succ]
          refine h_take 7 (.agg (acs a).toArray) rfl 16 rfl (by kernel_rfl) (by kernel_rfl) (by kernel_rfl) (by kernel_rfl) (fun _ _ _ h => h) (fun w' hw => run_op_build _ _ rfl (acs a) (by simp only [List.map_toArray, List.map_cons, List.map_nil]; exact BA.out) w') hr7 ?_
          simp only [Act.put, List.setIfInBounds_toArray, List.set_cons_zero, List.set_cons_succ]
          refine h_one (i := 9) (by kernel_rfl) (o_skip rfl rfl (by kernel_rfl) (run_op_store _ _ _ rfl N 0 rfl (acs a) rfl _ _ rN7 (fitA a) (acs_one a) (sz_acc a)) ?_)
          have rf := row_setRow rN7 (lay (acs za) 0 (acs a))
          have of := Only.setRow N y7 (lay (acs za) 0 (acs a)).toArray
          generalize y7.setRow N (lay (acs za) 0 (acs a)).toArray = yf at rf of ⊢
          have hAf : RdAt yf R d s3 := hA7.other of (Ne.symm nNR) (Ne.symm nNd)
          have hZf := hZ7.only of (Ne.symm nNZ)
          have bf : Below w.heap.size w yf := below_only b7 of lN b7.size
          have hrf : Rd yf q tb := Rd_only hr7 rN7 (acs_no za) of
          refine ⟨hrf, ?_⟩
          refine wpAnyH_done (by kernel_rfl) ?_ _
          go_wp2_with fail
          go_meet
          exact ⟨N, rfl, rf.congr (allA a), hAf, hZf, bf, lN, nNZ⟩
      · skip
        refine (o_value _ rfl 5 rfl (by kernel_rfl) (run_op_alloc _ rfl (acs za) z_acc) ?_)
        have hN9 := new_alloc y1 (.cells (acs za).toArray 38)
        have rN9 : Row (y1.alloc (.cells (acs za).toArray 38)) y1.heap.size 38 (acs za) := heap_alloc_new _ _
        have lN := b1.size; have lR := hA1.row_lt; have ld := hA1.dlt; have lZ := hZ1.lt
        generalize y1.alloc (.cells (acs za).toArray 38) = y9 at hN9 rN9 ⊢
        have hA9 := hA1.old hN9.below; have hZ9 := hZ1.old hN9.below
        have b9 : Below w.heap.size w y9 := below_step b1 b1.size hN9.below
        have hr9 := hr1.below hN9.below
        clear hN9
        refine ⟨hr9, ?_⟩
        generalize y1.heap.size = N at rN9 lN lR ld lZ ⊢
        have nNR : N ≠ R := by omega
        have nNd : N ≠ d := by omega
        have nNZ : N ≠ Z := by omega
        simp only [Act.put, List.setIfInBounds_toArray, List.set_cons_zero, List.set_cons_succ]
        refine h_one (i := 4) (by kernel_rfl) (o_call rfl 13 rfl (by kernel_rfl) (run_op_call 84 _ _ rfl #[.pointer (some ⟨R, 0, none⟩)] (by simp only [List.map_toArray, List.map_cons, List.map_nil]; rfl) Try.func84 (by kernel_rfl) (by kernel_rfl) _) (CL.out R d _ hA9) ?_)
        rintro e y10 ⟨rfl, hA10, hO⟩
        have hZ10 := hZ9.only hO hZR
        have b10 : Below w.heap.size w y10 := below_only b9 hO hwR b9.size
        have rN10 := rN9.only hO nNR
        have hr10 := hA9.keep_rd hO hr9
        clear hO
        refine ⟨_, rfl, hr10, ?_⟩
        simp only [Act.put, List.setIfInBounds_toArray, List.set_cons_zero, List.set_cons_succ]
        refine h_one (i := 6) (by kernel_rfl) (o_call rfl 15 rfl (by kernel_rfl) (run_op_call 70 _ _ rfl #[.pointer (some ⟨R, 0, none⟩)] (by simp only [List.map_toArray, List.map_cons, List.map_nil]; rfl) Try.func70 (by kernel_rfl) (by kernel_rfl) _) (CM.out R d _ hA10) ?_)
        rintro e y11 ⟨rfl, hA11, hO⟩
        have hZ11 := hZ10.only hO hZR
        have b11 : Below w.heap.size w y11 := below_only b10 hO hwR b10.size
        have rN11 := rN10.only hO nNR
        have hr11 := hA10.keep_rd hO hr10
        clear hO
        refine ⟨_, rfl, hr11, ?_⟩
        simp only [Act.put, List.setIfInBounds_toArray, List.set_cons_zero, List.set_cons_succ]
        refine h_take 7 (.agg (acs a).toArray) rfl 16 rfl (by kernel_rfl) (by kernel_rfl) (by kernel_rfl) (by kernel_rfl) (fun _ _ _ h => h) (fun w' hw => run_op_build _ _ rfl (acs a) (by simp only [List.map_toArray, List.map_cons, List.map_nil]; exact BA.out) w') hr11 ?_
        simp only [Act.put, List.setIfInBounds_toArray, List.set_cons_zero, List.set_cons_succ]
        refine h_one (i := 9) (by kernel_rfl) (o_skip rfl rfl (by kernel_rfl) (run_op_store _ _ _ rfl N 0 rfl (acs a) rfl _ _ rN11 (fitA a) (acs_one a) (sz_acc a)) ?_)
        have rf := row_setRow rN11 (lay (acs za) 0 (acs a))
        have of := Only.setRow N y11 (lay (acs za) 0 (acs a)).toArray
        generalize y11.setRow N (lay (acs za) 0 (acs a)).toArray = yf at rf of ⊢
        have hAf : RdAt yf R d s3 := hA11.other of (Ne.symm nNR) (Ne.symm nNd)
        have hZf := hZ11.only of (Ne.symm nNZ)
        have bf : Below w.heap.size w yf := below_only b11 of lN b11.size
        have hrf : Rd yf q tb := Rd_only hr11 rN11 (acs_no za) of
        refine ⟨hrf, ?_⟩
        refine wpAnyH_done (by kernel_rfl) ?_ _
        go_wp2_with fail
        go_meet
        exact ⟨N, rfl, rf.congr (allA a), hAf, hZf, bf, lN, nNZ⟩
    · skip
      refine (o_value _ rfl 5 rfl (by kernel_rfl) (run_op_alloc _ rfl (acs za) z_acc) ?_)
      have hN13 := new_alloc y0 (.cells (acs za).toArray 38)
      have rN13 : Row (y0.alloc (.cells (acs za).toArray 38)) y0.heap.size 38 (acs za) := heap_alloc_new _ _
      have lN := b0.size; have lR := hA0.row_lt; have ld := hA0.dlt; have lZ := hZ0.lt
      generalize y0.alloc (.cells (acs za).toArray 38) = y13 at hN13 rN13 ⊢
      have hA13 := hA0.old hN13.below; have hZ13 := hZ0.old hN13.below
      have b13 : Below w.heap.size w y13 := below_step b0 b0.size hN13.below
      clear hN13
      refine ⟨True.intro, ?_⟩
      generalize y0.heap.size = N at rN13 lN lR ld lZ ⊢
      have nNR : N ≠ R := by omega
      have nNd : N ≠ d := by omega
      have nNZ : N ≠ Z := by omega
      simp only [Act.put, List.setIfInBounds_toArray, List.set_cons_zero, List.set_cons_succ]
      refine h_one (i := 1) (by kernel_rfl) (o_call rfl 10 rfl (by kernel_rfl) (run_op_call 74 _ _ rfl #[.pointer (some ⟨R, 0, none⟩), .int .i64 8] (by simp only [List.map_toArray, List.map_cons, List.map_nil]; rfl) Try.func74 (by kernel_rfl) (by kernel_rfl) _) (CT.out R d _ hA13) ?_)
      rintro e y14 ⟨⟨q, c, rfl, hr14⟩, hA14, hO⟩
      have hZ14 := hZ13.only hO hZR
      have b14 : Below w.heap.size w y14 := below_only b13 hO hwR b13.size
      have rN14 := rN13.only hO nNR
      clear hO
      refine ⟨_, rfl, True.intro, ?_⟩
      simp only [Act.put, List.setIfInBounds_toArray, List.set_cons_zero, List.set_cons_succ]
      refine h_more (S' := fun w' => Rd w' q tb) (fun _ _ => True.intro) _ _ _ _ ?_
      refine h_take 2 (.string (strOf tb)) rfl 11 rfl (by kernel_rfl) (by kernel_rfl) (by kernel_rfl) (by kernel_rfl) (fun _ _ _ h => h) (fun w' hw => run_op_toStr _ _ 5 _ rfl (by kernel_rfl) (by kernel_rfl) (by kernel_rfl) q tb.length c tb rfl rfl hw.at_ HLT.out) hr14 ?_
      simp only [Act.put, List.setIfInBounds_toArray, List.set_cons_zero, List.set_cons_succ]
      refine h_one (i := 4) (by kernel_rfl) (o_call rfl 13 rfl (by kernel_rfl) (run_op_call 84 _ _ rfl #[.pointer (some ⟨R, 0, none⟩)] (by simp only [List.map_toArray, List.map_cons, List.map_nil]; rfl) Try.func84 (by kernel_rfl) (by kernel_rfl) _) (CL.out R d _ hA14) ?_)
      rintro e y15 ⟨rfl, hA15, hO⟩
      have hZ15 := hZ14.only hO hZR
      have b15 : Below w.heap.size w y15 := below_only b14 hO hwR b14.size
      have rN15 := rN14.only hO nNR
      have hr15 := hA14.keep_rd hO hr14
      clear hO
      refine ⟨_, rfl, hr15, ?_⟩
      simp only [Act.put, List.setIfInBounds_toArray, List.set_cons_zero, List.set_cons_succ]
      refine h_one (i := 6) (by kernel_rfl) (o_call rfl 15 rfl (by kernel_rfl) (run_op_call 70 _ _ rfl #[.pointer (some ⟨R, 0, none⟩)] (by simp only [List.map_toArray, List.map_cons, List.map_nil]; rfl) Try.func70 (by kernel_rfl) (by kernel_rfl) _) (CM.out R d _ hA15) ?_)
      rintro e y16 ⟨rfl, hA16, hO⟩
      have hZ16 := hZ15.only hO hZR
      have b16 : Below w.heap.size w y16 := below_only b15 hO hwR b15.size
      have rN16 := rN15.only hO nNR
      have hr16 := hA15.keep_rd hO hr15
      clear hO
      refine ⟨_, rfl, hr16, ?_⟩
      simp only [Act.put, List.setIfInBounds_toArray, List.set_cons_zero, List.set_cons_succ]
      refine h_take 7 (.agg (acs a).toArray) rfl 16 rfl (by kernel_rfl) (by kernel_rfl) (by kernel_rfl) (by kernel_rfl) (fun _ _ _ h => h) (fun w' hw => run_op_build _ _ rfl (acs a) (by simp only [List.map_toArray, List.map_cons, List.map_nil]; exact BA.out) w') hr16 ?_
      simp only [Act.put, List.setIfInBounds_toArray, List.set_cons_zero, List.set_cons_succ]
      refine h_one (i := 9) (by kernel_rfl) (o_skip rfl rfl (by kernel_rfl) (run_op_store _ _ _ rfl N 0 rfl (acs a) rfl _ _ rN16 (fitA a) (acs_one a) (sz_acc a)) ?_)
      have rf := row_setRow rN16 (lay (acs za) 0 (acs a))
      have of := Only.setRow N y16 (lay (acs za) 0 (acs a)).toArray
      generalize y16.setRow N (lay (acs za) 0 (acs a)).toArray = yf at rf of ⊢
      have hAf : RdAt yf R d s3 := hA16.other of (Ne.symm nNR) (Ne.symm nNd)
      have hZf := hZ16.only of (Ne.symm nNZ)
      have bf : Below w.heap.size w yf := below_only b16 of lN b16.size
      have hrf : Rd yf q tb := Rd_only hr16 rN16 (acs_no za) of
      refine ⟨hrf, ?_⟩
      refine wpAnyH_done (by kernel_rfl) ?_ _
      go_wp2_with fail
      go_meet
      exact ⟨N, rfl, rf.congr (allA a), hAf, hZf, bf, lN, nNZ⟩
  case rest =>
    obtain ⟨N, rfl, rN, hA, hZ, bel, lN, nNZ⟩ := hcut
    clear hA2 hZ2 bel2 CT CL CM CN HP BA HLT
    by_cases he : ee = 0
    · have hz : ((ee : Int) != 0) = false := by rw [he]; rfl
      have hz' : ((ee : Int) == 0) = true := by rw [he]; rfl
      have HE := Lib.hid he
      clear he
      by_cases hr : NRt a.nm
      · rw [decide_eq_true hr] at CR
        have HQ := Lib.hid (HD.out.2.2 HE.out hr)
        clear hr HD
        go_wp2_with fail
        refine (CE.out R d _ hA).mono ?_
        rintro e w3 ⟨rfl, rfl⟩
        go_wp2_with (first
          | ((with_reducible refine at_slot 23 ?_); (refine arm_load (o := ⟨some 23, _, _, _, _, _⟩) rfl _ _ rfl N 0 rfl (acs a) ((Has.refl _).range rN) (sz_acc a) ?_)))
        refine (CR.out _).mono ?_
        rintro e w4 ⟨rfl, hB4⟩
        have rN4 := rN.old hB4
        have hZ4 := hZ.old hB4
        have bel4 : Below w.heap.size w w4 := below_step bel bel.size hB4
        clear rN hZ hB4 hA
        go_wp2_with (first
          | ((with_reducible refine at_slot 27 ?_); (refine arm_load (o := ⟨some 27, _, _, _, _, _⟩) rfl _ _ rfl N 0 rfl (acs a) ((Has.refl _).range rN4) (sz_acc a) ?_))
          | ((with_reducible refine arm_store (o := ⟨none, _, _, _, _, _⟩) rfl _ _ _ rfl Z 0 rfl (acs a) rfl _ _ (hZ4) (fitA a) (acs_one a) (sz_acc a) ?_); intro w9 hw9 ow9 sw9))
        refine bodyPost_ret (result_row2 (p := 2) (u := 3) (ty := 38) (t := 38) (by kernel_rfl) _ _ Z (acs a) (.int .i64 0) rfl rfl (hw9.congr (allA a)) (sz_acc a)) rfl ⟨by rw [HQ.out]; rfl, below_only bel4 ow9 hwZ bel4.size⟩
      · rw [decide_eq_false hr] at CR
        have HQ := Lib.hid (HD.out.2.1 HE.out hr)
        clear hr HD
        go_wp2_with fail
        refine (CE.out R d _ hA).mono ?_
        rintro e w3 ⟨rfl, rfl⟩
        go_wp2_with (first
          | ((with_reducible refine at_slot 23 ?_); (refine arm_load (o := ⟨some 23, _, _, _, _, _⟩) rfl _ _ rfl N 0 rfl (acs a) ((Has.refl _).range rN) (sz_acc a) ?_)))
        refine (CR.out _).mono ?_
        rintro e w4 ⟨rfl, hB4⟩
        have hZ4 := hZ.old hB4
        have bel4 : Below w.heap.size w w4 := below_step bel bel.size hB4
        clear rN hZ hB4 hA
        go_wp2_with (first
          | ((with_reducible refine at_slot 26 ?_); (refine arm_build (o := ⟨some 26, _, _, _, _, _⟩) rfl _ _ rfl (acs za) (by simp only [List.map_toArray, List.map_nil]; exact built_za) ?_))
          | ((with_reducible refine arm_store (o := ⟨none, _, _, _, _, _⟩) rfl _ _ _ rfl Z 0 rfl (acs za) rfl _ _ (hZ4) (fitA za) (acs_one za) (sz_acc za) ?_); intro w9 hw9 ow9 sw9))
        refine bodyPost_ret (result_row2 (p := 2) (u := 3) (ty := 38) (t := 38) (by kernel_rfl) _ _ Z (acs za) (.int .i64 2) rfl rfl (hw9.congr (allA za)) (sz_acc za)) rfl ⟨by rw [HQ.out]; rfl, below_only bel4 ow9 hwZ bel4.size⟩
    · have hz : ((ee : Int) != 0) = true := by simp; omega
      have hz' : ((ee : Int) == 0) = false := beq_eq_false_iff_ne.2 (by omega)
      have HQ := Lib.hid (HD.out.1 he)
      clear he HD
      obtain ⟨z, hzz⟩ : ∃ z : Int, z = (ee : Int) := ⟨_, rfl⟩
      rw [← hzz] at CE hz hz'
      have HZ := Lib.hid hzz
      clear hzz
      go_wp2_with fail
      refine (CE.out R d _ hA).mono ?_
      rintro e w3 ⟨rfl, rfl⟩
      go_wp2_with (first
        | ((with_reducible refine at_slot 21 ?_); (refine arm_build (o := ⟨some 21, _, _, _, _, _⟩) rfl _ _ rfl (acs za) (by simp only [List.map_toArray, List.map_nil]; exact built_za) ?_))
        | ((with_reducible refine arm_store (o := ⟨none, _, _, _, _, _⟩) rfl _ _ _ rfl Z 0 rfl (acs za) rfl _ _ (hZ) (fitA za) (acs_one za) (sz_acc za) ?_); intro w9 hw9 ow9 sw9))
      refine bodyPost_ret (result_row2 (p := 2) (u := 3) (ty := 38) (t := 38) (by kernel_rfl) _ _ Z (acs za) (.int .i64 z) rfl rfl (hw9.congr (allA za)) (sz_acc za)) rfl ⟨by rw [HQ.out, HZ.out], below_only bel ow9 hwZ bel.size⟩
end Go.Proofs.Ytghogoijjaiccaa.Ac
