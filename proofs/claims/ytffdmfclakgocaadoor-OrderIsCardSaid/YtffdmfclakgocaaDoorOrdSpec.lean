/-
  An order of digests and of keys, over numbers: a digest is a number of 32 digits of base 256, a key one of three such; which is greater; the first that none is greater than. Over lists of numbers alone.
-/
import Derived.Test.YtffdmfclakgocaaDoorEpoAll
namespace Go.Proofs.YtffdmfclakgocaaDoor.Od
open Go.Proofs.YtffdmfclakgocaaDoor.Bt
open Go.Proofs.YtffdmfclakgocaaDoor.Ep (H32 zh zh_ok h_len)
set_option linter.unusedVariables false
set_option linter.unusedSimpArgs false

/-- Which of two numbers is greater. -/
def cmpN (m n : Nat) : Int := if m < n then -1 else if n < m then 1 else 0
theorem cmpN_lt {m n : Nat} (h : m < n) : cmpN m n = -1 := if_pos h
theorem cmpN_gt {m n : Nat} (h : n < m) : cmpN m n = 1 := by unfold cmpN; rw [if_neg (by omega), if_pos h]
theorem cmpN_same (n : Nat) : cmpN n n = 0 := by unfold cmpN; rw [if_neg (by omega), if_neg (by omega)]
theorem cmpN_neg {m n : Nat} : cmpN m n < 0 ↔ m < n := by unfold cmpN; split <;> (try split) <;> omega
theorem cmpN_pos {m n : Nat} : 0 < cmpN m n ↔ n < m := by unfold cmpN; split <;> (try split) <;> omega
theorem cmpN_zero {m n : Nat} : cmpN m n = 0 ↔ m = n := by unfold cmpN; split <;> (try split) <;> omega
theorem cmpN_swap (m n : Nat) : cmpN m n = -cmpN n m := by unfold cmpN; split <;> (try split) <;> (try split) <;> omega
theorem cmpN_bd (m n : Nat) : -1 ≤ cmpN m n ∧ cmpN m n ≤ 1 := by unfold cmpN; split <;> (try split) <;> omega
/-- Digits of base 256, the highest first. -/
def val : List Nat → Nat
  | [] => 0
  | a :: x => a * 256 ^ x.length + val x
theorem val_lt : ∀ x : List Nat, AllLt 256 x → val x < 256 ^ x.length
  | [], _ => by decide
  | a :: x, h => by
    have h1 := val_lt x (fun y hy => h y (by simp [hy]))
    have h2 : a + 1 ≤ 256 := h a (by simp)
    have h3 := Nat.mul_le_mul_right (256 ^ x.length) h2
    rw [val, List.length_cons, Nat.pow_succ, Nat.mul_comm (256 ^ x.length) 256]
    rw [Nat.succ_mul] at h3
    omega
theorem val_append : ∀ (p x : List Nat), val (p ++ x) = val p * 256 ^ x.length + val x
  | [], x => by simp [val]
  | a :: p, x => by
    rw [List.cons_append, val, val_append p x, val, List.length_append, Nat.add_mul, Nat.mul_assoc, ← Nat.pow_add]
    omega
/-- The first digit that is another one tells. -/
theorem val_first {p x y : List Nat} {a b : Nat} (hl : x.length = y.length) (hx : AllLt 256 x) (h : a < b) : val (p ++ a :: x) < val (p ++ b :: y) := by
  rw [val_append, val_append, List.length_cons, List.length_cons, hl, val, val, hl]
  have h1 := val_lt x hx
  have h2 := Nat.mul_le_mul_right (256 ^ y.length) (show a + 1 ≤ b from h)
  rw [Nat.succ_mul] at h2
  rw [hl] at h1
  omega
theorem val_inj : ∀ (x y : List Nat), x.length = y.length → AllLt 256 x → AllLt 256 y → val x = val y → x = y
  | [], [], _, _, _, _ => rfl
  | [], b :: y, h, _, _, _ => by simp at h
  | a :: x, [], h, _, _, _ => by simp at h
  | a :: x, b :: y, h, hx, hy, e => by
    have hl : x.length = y.length := by simpa using h
    have hx' : AllLt 256 x := fun z hz => hx z (by simp [hz])
    have hy' : AllLt 256 y := fun z hz => hy z (by simp [hz])
    rcases Nat.lt_trichotomy a b with h1 | rfl | h1
    · have := val_first (p := []) hl hx' h1
      simp only [List.nil_append] at this
      omega
    · rw [val, val, hl] at e
      rw [val_inj x y hl hx' hy' (by omega)]
    · have := val_first (p := []) hl.symm hy' h1
      simp only [List.nil_append] at this
      omega
/-- 256 ^ 32, behind a name. -/
def big : Nat := 256 ^ 32
theorem big_pos : 0 < big := by unfold big; exact Nat.pow_pos (by decide)
theorem val_big {x : List Nat} (k : H32 x) : val x < big := by
  have := val_lt x k.lt
  rw [k.len] at this
  exact this
theorem val_eq {x y : List Nat} (k : H32 x) (j : H32 y) : val x = val y ↔ x = y := ⟨val_inj x y (k.len.trans j.len.symm) k.lt j.lt, congrArg val⟩
/-- What a place tells of two digests that are the same ahead of it. -/
theorem hash_at {x y : List Nat} (k : H32 x) (j : H32 y) {i a b : Nat} (ht : x.take i = y.take i) (ha : x[i]? = some a) (hb : y[i]? = some b) : (a < b → val x < val y) ∧ (b < a → val y < val x) := by
  obtain ⟨hi, ea⟩ := List.getElem?_eq_some_iff.1 ha
  obtain ⟨hj, eb⟩ := List.getElem?_eq_some_iff.1 hb
  have hx : x = x.take i ++ a :: x.drop (i + 1) := by rw [← ea, ← List.drop_eq_getElem_cons hi, List.take_append_drop]
  have hy : y = x.take i ++ b :: y.drop (i + 1) := by rw [ht, ← eb, ← List.drop_eq_getElem_cons hj, List.take_append_drop]
  have hl : (x.drop (i + 1)).length = (y.drop (i + 1)).length := by rw [List.length_drop, List.length_drop, k.len, j.len]
  have kx : AllLt 256 (x.drop (i + 1)) := fun z hz => k.lt z (List.mem_of_mem_drop hz)
  have ky : AllLt 256 (y.drop (i + 1)) := fun z hz => j.lt z (List.mem_of_mem_drop hz)
  constructor
  · intro h
    have := val_first (p := x.take i) hl kx h
    rwa [← hx, ← hy] at this
  · intro h
    have := val_first (p := x.take i) hl.symm ky h
    rwa [← hx, ← hy] at this
theorem take_more {x y : List Nat} {i a : Nat} (ht : x.take i = y.take i) (ha : x[i]? = some a) (hb : y[i]? = some a) : x.take (i + 1) = y.take (i + 1) := by
  rw [List.take_add_one, List.take_add_one, ht, ha, hb]
/-! ### Keys. -/
structure Ky where
  len : Nat
  draw : List Nat
  hash : List Nat
structure Ky.Ok (k : Ky) : Prop where
  len : k.len < 4294967296
  draw : H32 k.draw
  hash : H32 k.hash
def kval (k : Ky) : Nat := (k.len * big + val k.draw) * big + val k.hash
def kcmp (a b : Ky) : Int := cmpN (kval a) (kval b)
theorem mix_lt {m n x y B : Nat} (hx : x < B) (h : m < n) : m * B + x < n * B + y := by
  have := Nat.mul_le_mul_right B (show m + 1 ≤ n from h)
  rw [Nat.succ_mul] at this
  omega
theorem kval_len {a b : Ky} (j : a.Ok) (h : a.len < b.len) : kval a < kval b := mix_lt (val_big j.hash) (mix_lt (val_big j.draw) h)
theorem kval_draw {a b : Ky} (j : a.Ok) (e : a.len = b.len) (h : val a.draw < val b.draw) : kval a < kval b := by
  refine mix_lt (val_big j.hash) ?_
  rw [e]; omega
theorem kval_hash {a b : Ky} (e : a.len = b.len) (d : a.draw = b.draw) : kcmp a b = cmpN (val a.hash) (val b.hash) := by
  unfold kcmp kval cmpN
  rw [e, d]
  split <;> rename_i h1
  · rw [if_pos (by omega)]
  · split <;> rename_i h2
    · rw [if_neg (by omega), if_pos (by omega)]
    · rw [if_neg (by omega), if_neg (by omega)]
theorem kval_inj {a b : Ky} (j : a.Ok) (k : b.Ok) (h : kval a = kval b) : a = b := by
  have h1 : a.len = b.len := by
    rcases Nat.lt_trichotomy a.len b.len with h1 | h1 | h1
    · have := kval_len j h1; omega
    · exact h1
    · have := kval_len k h1; omega
  have h2 : val a.draw = val b.draw := by
    rcases Nat.lt_trichotomy (val a.draw) (val b.draw) with h2 | h2 | h2
    · have := kval_draw j h1 h2; omega
    · exact h2
    · have := kval_draw k h1.symm h2; omega
  have h3 := (val_eq j.draw k.draw).1 h2
  have h4 : val a.hash = val b.hash := by
    unfold kval at h
    rw [h1, h2] at h
    omega
  have h5 := (val_eq j.hash k.hash).1 h4
  cases a; cases b
  simp only at h1 h3 h5
  rw [h1, h3, h5]
/-- What two keys' order is, part by part. -/
theorem kcmp_parts {a b : Ky} (j : a.Ok) (k : b.Ok) : kcmp a b = if cmpN a.len b.len = 0 then (if cmpN (val a.draw) (val b.draw) = 0 then cmpN (val a.hash) (val b.hash) else cmpN (val a.draw) (val b.draw)) else cmpN a.len b.len := by
  rcases Nat.lt_trichotomy a.len b.len with h1 | h1 | h1
  · rw [cmpN_lt h1, if_neg (by decide)]; exact cmpN_lt (kval_len j h1)
  · rw [cmpN_zero.2 h1, if_pos rfl]
    rcases Nat.lt_trichotomy (val a.draw) (val b.draw) with h2 | h2 | h2
    · rw [cmpN_lt h2, if_neg (by decide)]; exact cmpN_lt (kval_draw j h1 h2)
    · rw [cmpN_zero.2 h2, if_pos rfl]; exact kval_hash h1 ((val_eq j.draw k.draw).1 h2)
    · rw [cmpN_gt h2, if_neg (by decide)]; exact cmpN_gt (kval_draw k h1.symm h2)
  · rw [cmpN_gt h1, if_neg (by decide)]; exact cmpN_gt (kval_len k h1)
theorem kcmp_zero {a b : Ky} (j : a.Ok) (k : b.Ok) : kcmp a b = 0 ↔ a = b := cmpN_zero.trans ⟨kval_inj j k, congrArg kval⟩
/-! ### The first that none is greater than. -/
/-- Place j of the first k keys: none of them is greater, and those ahead are less. -/
structure Top (l : List Ky) (k j : Nat) : Prop where
  lt : j < k
  all : ∀ i a b, i < k → l[i]? = some a → l[j]? = some b → kval a ≤ kval b
  ahead : ∀ i a b, i < j → l[i]? = some a → l[j]? = some b → kval a < kval b
theorem Top.one (l : List Ky) : Top l 1 0 := ⟨by omega, fun i a b hi ha hb => by
  obtain rfl : i = 0 := by omega
  rw [ha] at hb
  rw [Option.some.inj hb]
  exact Nat.le_refl _, fun i a b hi => by omega⟩
theorem Top.stay {l : List Ky} {k j : Nat} {a b : Ky} (h : Top l k j) (ha : l[k]? = some a) (hb : l[j]? = some b) (hle : kval a ≤ kval b) : Top l (k + 1) j := ⟨by have := h.lt; omega, fun i c d hi hc hd => by
  by_cases hk : i < k
  · exact h.all i c d hk hc hd
  · obtain rfl : i = k := by omega
    rw [ha] at hc; rw [hb] at hd
    rw [← Option.some.inj hc, ← Option.some.inj hd]
    exact hle, h.ahead⟩
theorem Top.turn {l : List Ky} {k j : Nat} {a b : Ky} (h : Top l k j) (ha : l[k]? = some a) (hb : l[j]? = some b) (hlt : kval b < kval a) : Top l (k + 1) k := ⟨by omega, fun i c d hi hc hd => by
  rw [ha] at hd
  rw [← Option.some.inj hd]
  by_cases hk : i < k
  · have := h.all i c b hk hc hb; omega
  · obtain rfl : i = k := by omega
    rw [ha] at hc
    rw [← Option.some.inj hc]
    exact Nat.le_refl _, fun i c d hi hc hd => by
  rw [ha] at hd
  rw [← Option.some.inj hd]
  have := h.all i c b hi hc hb
  omega⟩
theorem Top.only {l : List Ky} {k i j : Nat} (h : Top l k i) (g : Top l k j) (hk : k ≤ l.length) : i = j := by
  have hi := h.lt; have hj := g.lt
  obtain ⟨a, ha⟩ : ∃ a, l[i]? = some a := ⟨_, List.getElem?_eq_getElem (by omega)⟩
  obtain ⟨b, hb⟩ : ∃ b, l[j]? = some b := ⟨_, List.getElem?_eq_getElem (by omega)⟩
  have h1 := h.all j b a hj hb ha
  have h2 := g.all i a b hi ha hb
  rcases Nat.lt_trichotomy i j with h3 | h3 | h3
  · have := g.ahead i a b h3 ha hb; omega
  · exact h3
  · have := h.ahead j b a h3 hb ha; omega
theorem Top.exists (l : List Ky) : ∀ k, k + 1 ≤ l.length → ∃ j, Top l (k + 1) j
  | 0, _ => ⟨0, Top.one l⟩
  | k + 1, h => by
    obtain ⟨j, hj⟩ := Top.exists l k (by omega)
    have hl := hj.lt
    obtain ⟨a, ha⟩ : ∃ a, l[k + 1]? = some a := ⟨_, List.getElem?_eq_getElem (by omega)⟩
    obtain ⟨b, hb⟩ : ∃ b, l[j]? = some b := ⟨_, List.getElem?_eq_getElem (by omega)⟩
    by_cases hle : kval a ≤ kval b
    · exact ⟨j, hj.stay ha hb hle⟩
    · exact ⟨k + 1, hj.turn ha hb (by omega)⟩
end Go.Proofs.YtffdmfclakgocaaDoor.Od
