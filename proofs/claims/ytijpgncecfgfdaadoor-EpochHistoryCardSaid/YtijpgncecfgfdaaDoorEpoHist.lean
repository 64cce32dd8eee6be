/-
  What Next is, told of a whole history of blocks; with one block more it is what it was, with that block behind it. Pure.
-/
import Derived.Test.YtijpgncecfgfdaaDoorEpoFollow
namespace Go.Proofs.YtijpgncecfgfdaaDoor.Ep
open Go.Proofs.YtijpgncecfgfdaaDoor.Bt
set_option linter.unusedVariables false
set_option linter.unusedSimpArgs false

/-! A block of a history: 'fro' is its slot, 'to' how far it is behind its parent's. -/
def seedS (d : Dat) (b : Blk) : Dat := if b.fro % 24 < 16 then ⟨d.led, seedN d.seed b.draw, d.start, d.lock, d.len⟩ else d
def len1 (d : Dat) : Dat := ⟨d.led, d.seed, d.start, d.lock, 1⟩
def newS (d : Dat) (b : Blk) : Dat := ⟨b.led, d.seed, b.prev, zh, 0⟩
def lockS (d : Dat) (b : Blk) : Dat := ⟨d.led, d.seed, d.start, b.prev, d.len⟩
def s2 (k : Nat) (d : Dat) (b : Blk) : Dat := if k = 0 ∧ b.fro / 24 = 0 then len1 d else d
def c3 (l : List Blk) (k : Nat) (b : Blk) : Prop := (k = 0 ∧ 0 < b.fro / 24) ∨ (0 < k ∧ (l.getD (k - 1) zb).fro / 24 < b.fro / 24)
instance (l : List Blk) (k : Nat) (b : Blk) : Decidable (c3 l k b) := by unfold c3; exact inferInstance
def s3 (l : List Blk) (k : Nat) (d : Dat) (b : Blk) : Dat := if c3 l k b then newS d b else d
def s4 (d : Dat) (b : Blk) : Dat := if b.fro % 24 < 16 then lockS d b else d
def stepD (E : Nat) (l : List Blk) (k : Nat) (d : Dat) : Dat :=
  if (l.getD k zb).fro / 24 = E then s4 (moreD (s3 l k (s2 k (seedS d (l.getD k zb)) (l.getD k zb)) (l.getD k zb))) (l.getD k zb) else seedS d (l.getD k zb)
def loopD (f : List Nat) (E : Nat) (l : List Blk) : Nat → Dat
  | 0 => ⟨f, zh, zh, zh, 1⟩
  | k + 1 => stepD E l k (loopD f E l k)
def lastS (l : List Blk) : Nat := (l.getD (l.length - 1) zb).fro
/-- What Next is. -/
def nextH (f : List Nat) (l : List Blk) : Dat := loopD f (lastS l / 24) l l.length
theorem getD_left {l : List Blk} {e : Blk} {k : Nat} (h : k < l.length) : (l ++ [e]).getD k zb = l.getD k zb := by
  rw [List.getD_eq_getElem?_getD, List.getD_eq_getElem?_getD, List.getElem?_append_left h]
theorem getD_last (l : List Blk) (e : Blk) : (l ++ [e]).getD l.length zb = e := by
  rw [List.getD_eq_getElem?_getD, List.getElem?_append_right (Nat.le_refl _), Nat.sub_self]
  rfl
theorem lastS_snoc (l : List Blk) (e : Blk) : lastS (l ++ [e]) = e.fro := by
  unfold lastS
  rw [List.length_append, List.length_singleton, Nat.add_sub_cancel, getD_last]
theorem s3_app {l : List Blk} {e b : Blk} {d : Dat} {k : Nat} (h : k < l.length) : s3 (l ++ [e]) k d b = s3 l k d b := by
  have hi : c3 (l ++ [e]) k b ↔ c3 l k b := by
    unfold c3
    rw [getD_left (show k - 1 < l.length by omega)]
  unfold s3
  by_cases hc : c3 l k b
  · rw [if_pos hc, if_pos (hi.2 hc)]
  · rw [if_neg hc, if_neg (fun x => hc (hi.1 x))]
theorem step_app (E : Nat) (l : List Blk) (e : Blk) (k : Nat) (d : Dat) (h : k < l.length) : stepD E (l ++ [e]) k d = stepD E l k d := by
  unfold stepD
  rw [getD_left h, s3_app h]
theorem loop_app (f : List Nat) (E : Nat) (l : List Blk) (e : Blk) : ∀ k, k ≤ l.length → loopD f E (l ++ [e]) k = loopD f E l k
  | 0, _ => rfl
  | k + 1, h => by
    unfold loopD
    rw [loop_app f E l e k (by omega), step_app E l e k _ (by omega)]
theorem seedS_seed (d : Dat) (b : Blk) : (seedS d b).seed = if b.fro % 24 < 16 then seedN d.seed b.draw else d.seed := by
  unfold seedS
  split <;> rfl
theorem step_seed (E : Nat) (l : List Blk) (k : Nat) (d : Dat) : (stepD E l k d).seed = (seedS d (l.getD k zb)).seed := by
  unfold stepD
  split
  · unfold s4 s3 s2
    repeat' split
    all_goals rfl
  · rfl
theorem loop_seed (f : List Nat) (E E' : Nat) (l : List Blk) : ∀ k, (loopD f E l k).seed = (loopD f E' l k).seed
  | 0 => rfl
  | k + 1 => by
    unfold loopD
    rw [step_seed, step_seed, seedS_seed, seedS_seed, loop_seed f E E' l k]
theorem loop_far (f : List Nat) (E : Nat) (l : List Blk) : ∀ k, (∀ j, j < k → (l.getD j zb).fro / 24 ≠ E) → loopD f E l k = ⟨f, (loopD f E l k).seed, zh, zh, 1⟩
  | 0, _ => rfl
  | k + 1, h => by
    have ih := loop_far f E l k (fun j hj => h j (by omega))
    unfold loopD
    unfold stepD
    rw [if_neg (h k (by omega))]
    unfold seedS
    split
    · rw [ih]
    · exact ih
/-- With one block more. -/
theorem next_snoc (f : List Nat) (l : List Blk) (e : Blk) (hs : ∀ b ∈ l, b.fro / 24 ≤ lastS l / 24) (hlt : lastS l < e.fro) :
    nextH f (l ++ [e]) = nextF (nextH f l) ⟨lastS l, e.fro, e.prev, e.led, e.draw⟩ := by
  have h0 : nextH f (l ++ [e]) = stepD (e.fro / 24) (l ++ [e]) l.length (loopD f (e.fro / 24) l l.length) := by
    unfold nextH
    rw [lastS_snoc, List.length_append, List.length_singleton]
    show stepD _ _ _ (loopD _ _ _ _) = _
    rw [loop_app f _ l e l.length (Nat.le_refl _)]
  have hp : ((l ++ [e]).getD (l.length - 1) zb).fro = if l.length = 0 then e.fro else lastS l := by
    split
    · rename_i hz
      have := getD_last l e
      rw [hz] at this ⊢
      rw [show (0 : Nat) - 1 = 0 from rfl, this]
    · rw [getD_left (by omega)]
      rfl
  rw [h0]
  unfold stepD
  rw [getD_last, if_pos rfl]
  by_cases ht : lastS l / 24 < e.fro / 24
  · -- a later epoch
    have hfar := loop_far f (e.fro / 24) l l.length (fun j hj => by
      have := hs (l.getD j zb) (by rw [List.getD_eq_getElem?_getD, List.getElem?_eq_getElem hj]; exact List.getElem_mem hj)
      omega)
    have hseed : (loopD f (e.fro / 24) l l.length).seed = (nextH f l).seed := loop_seed f _ _ l l.length
    rw [hseed] at hfar
    rw [hfar]
    have hc : c3 (l ++ [e]) l.length e := by
      unfold c3
      rw [hp]
      by_cases hz : l.length = 0
      · exact .inl ⟨hz, by omega⟩
      · rw [if_neg hz]; exact .inr ⟨by omega, ht⟩
    have hn : ¬ (l.length = 0 ∧ e.fro / 24 = 0) := by omega
    unfold s3 s2
    rw [if_pos hc, if_neg hn]
    unfold nextF
    rw [(made_yes (c := zd) (d := nextH f l) (b := ⟨lastS l, e.fro, e.prev, e.led, e.draw⟩) ht).1]
    by_cases hl : e.fro % 24 < 16
    · rw [lockd_yes (b := ⟨lastS l, e.fro, e.prev, e.led, e.draw⟩) hl]
      unfold s4 seedS
      rw [if_pos hl, if_pos hl]
      rfl
    · rw [lockd_no (b := ⟨lastS l, e.fro, e.prev, e.led, e.draw⟩) hl]
      unfold s4 seedS
      rw [if_neg hl, if_neg hl]
      rfl
  · have he : e.fro / 24 = lastS l / 24 := by omega
    have hD : loopD f (e.fro / 24) l l.length = nextH f l := by rw [he]; rfl
    rw [hD]
    have hc : ¬ c3 (l ++ [e]) l.length e := by
      unfold c3
      rw [hp]
      rintro (⟨hz, h⟩ | ⟨hz, h⟩)
      · have : l = [] := List.eq_nil_of_length_eq_zero hz
        subst this
        have : lastS [] = 0 := rfl
        omega
      · rw [if_neg (by omega)] at h; omega
    have h2 : s2 l.length (seedS (nextH f l) e) e = seedS (nextH f l) e := by
      unfold s2
      split
      · rename_i hz
        have : l = [] := List.eq_nil_of_length_eq_zero hz.1
        subst this
        unfold seedS
        split <;> rfl
      · rfl
    rw [h2]
    unfold s3
    rw [if_neg hc]
    unfold nextF
    rw [(made_no (c := zd) (d := nextH f l) (b := ⟨lastS l, e.fro, e.prev, e.led, e.draw⟩) ht).1]
    by_cases hl : e.fro % 24 < 16
    · rw [lockd_yes (b := ⟨lastS l, e.fro, e.prev, e.led, e.draw⟩) hl]
      unfold s4 seedS
      rw [if_pos hl, if_pos hl]
      rfl
    · rw [lockd_no (b := ⟨lastS l, e.fro, e.prev, e.led, e.draw⟩) hl]
      unfold s4 seedS
      rw [if_neg hl, if_neg hl]
theorem made_len (d : Dat) (b : Blk) : (nextF d b).len ≤ d.len + 1 := by
  have h : ∀ e : Dat, (lockd e b).len = e.len := fun e => by unfold lockd; split <;> rfl
  unfold nextF
  rw [h]
  unfold made
  split
  · show 1 ≤ _; omega
  · exact Nat.le_refl _
/-! ### What they are. -/
theorem seedS_ok {d : Dat} {b : Blk} (k : d.Ok) : (seedS d b).Ok := by
  unfold seedS
  split
  · exact ⟨k.led, seed_ok _ _, k.start, k.lock, k.len⟩
  · exact k
theorem len1_ok {d : Dat} (k : d.Ok) : (len1 d).Ok := ⟨k.led, k.seed, k.start, k.lock, (by decide : 1 < 4294967296)⟩
theorem newS_ok {d : Dat} {b : Blk} (k : d.Ok) (j : b.Ok) : (newS d b).Ok := ⟨j.led, k.seed, j.prev, zh_ok, (by decide : 0 < 4294967296)⟩
theorem lockS_ok {d : Dat} {b : Blk} (k : d.Ok) (j : b.Ok) : (lockS d b).Ok := ⟨k.led, k.seed, k.start, j.prev, k.len⟩
theorem s2_ok {d : Dat} {b : Blk} {i : Nat} (k : d.Ok) : (s2 i d b).Ok := by
  unfold s2
  split
  · exact len1_ok k
  · exact k
theorem s3_ok {d : Dat} {b : Blk} {l : List Blk} {i : Nat} (k : d.Ok) (j : b.Ok) : (s3 l i d b).Ok := by
  unfold s3
  split
  · exact newS_ok k j
  · exact k
theorem s4_ok {d : Dat} {b : Blk} (k : d.Ok) (j : b.Ok) : (s4 d b).Ok := by
  unfold s4
  split
  · exact lockS_ok k j
  · exact k
theorem seedS_len (d : Dat) (b : Blk) : (seedS d b).len = d.len := by unfold seedS; split <;> rfl
theorem s2_len (i : Nat) (d : Dat) (b : Blk) (h : 1 ≤ d.len) : (s2 i d b).len ≤ d.len := by
  unfold s2
  split
  · exact h
  · exact Nat.le_refl _
theorem s3_len (l : List Blk) (i : Nat) (d : Dat) (b : Blk) : (s3 l i d b).len ≤ d.len := by
  unfold s3
  split
  · exact Nat.zero_le _
  · exact Nat.le_refl _
theorem s4_len (d : Dat) (b : Blk) : (s4 d b).len = d.len := by unfold s4; split <;> rfl
theorem step_ok {E : Nat} {l : List Blk} {i : Nat} {d : Dat} (k : d.Ok) (j : (l.getD i zb).Ok) (h1 : 1 ≤ d.len) (h2 : d.len + 1 < 4294967296) : (stepD E l i d).Ok ∧ 1 ≤ (stepD E l i d).len ∧ (stepD E l i d).len ≤ d.len + 1 := by
  have e1 := seedS_len d (l.getD i zb)
  have e2 := s2_len i (seedS d (l.getD i zb)) (l.getD i zb) (by omega)
  have e3 := s3_len l i (s2 i (seedS d (l.getD i zb)) (l.getD i zb)) (l.getD i zb)
  unfold stepD
  split
  · have e4 := s4_len (moreD (s3 l i (s2 i (seedS d (l.getD i zb)) (l.getD i zb)) (l.getD i zb))) (l.getD i zb)
    refine ⟨s4_ok (more_ok (s3_ok (s2_ok (seedS_ok k)) j) (by omega)) j, ?_, ?_⟩
    · rw [e4]; show 1 ≤ _ + 1; omega
    · rw [e4]; show _ + 1 ≤ _; omega
  · exact ⟨seedS_ok k, by omega, by omega⟩
theorem loop_ok {f : List Nat} {E : Nat} {l : List Blk} (kf : H32 f) (hl : ∀ b ∈ l, b.Ok) (hn : l.length ≤ 1000) : ∀ k, k ≤ l.length → (loopD f E l k).Ok ∧ 1 ≤ (loopD f E l k).len ∧ (loopD f E l k).len ≤ k + 1
  | 0, _ => ⟨⟨kf, zh_ok, zh_ok, zh_ok, (by decide : 1 < 4294967296)⟩, Nat.le_refl _, Nat.le_refl _⟩
  | k + 1, h => by
    obtain ⟨a, b, c⟩ := loop_ok (E := E) kf hl hn k (by omega)
    have hj : (l.getD k zb).Ok := hl _ (by rw [List.getD_eq_getElem?_getD, List.getElem?_eq_getElem (by omega : k < l.length)]; exact List.getElem_mem _)
    obtain ⟨x, y, z⟩ := step_ok (E := E) (l := l) (i := k) a hj b (by omega)
    unfold loopD
    exact ⟨x, y, by omega⟩
end Go.Proofs.YtijpgncecfgfdaaDoor.Ep
