/-
  A cache of verdicts over lists: what stands in it, what is put, what is given up, what is told; what came last is known. No program.
-/
import Derived.Test.YtbpghogdjpobnaaEpoAll
namespace Go.Proofs.Ytbpghogdjpobnaa.Vd
open Go.RowKit Go.Proofs.Ytbpghogdjpobnaa.Mem Go.Proofs.Ytbpghogdjpobnaa.Bt
open Go.Proofs.Ytbpghogdjpobnaa.Ep (H32 zh zh_ok)
set_option linter.unusedVariables false
set_option linter.unusedSimpArgs false

abbrev VL := List (List Nat × Bool)
def keys (L : VL) : List (List Nat) := L.map Prod.fst
theorem keys_len (L : VL) : (keys L).length = L.length := List.length_map ..
/-- What is told of a digest. -/
def getV : VL → List Nat → Option Bool
  | [], _ => none
  | p :: L, h => if p.1 = h then some p.2 else getV L h
def setV (L : VL) (h : List Nat) (b : Bool) : VL := L.map fun p => if p.1 = h then (p.1, b) else p
/-- With one more put. -/
def putV (r : Nat) (L : VL) (h : List Nat) (b : Bool) : VL := if h ∈ keys L then setV L h b else if L.length < r then L ++ [(h, b)] else L.tail ++ [(h, b)]
/-- Is one given up, and which. -/
def fullV (r : Nat) (L : VL) (h : List Nat) : Bool := decide (h ∉ keys L ∧ r ≤ L.length)
def goneV (r : Nat) (L : VL) (h : List Nat) : List Nat := if fullV r L h then (keys L).headD zh else zh
/-- Each digest once, never more than there is room for. -/
structure VOk (r : Nat) (L : VL) : Prop where
  nd : (keys L).Nodup
  len : L.length ≤ r
  pos : 1 ≤ r
  ok : ∀ x ∈ keys L, H32 x
theorem v_nil {r : Nat} (h : 1 ≤ r) : VOk r [] := ⟨List.nodup_nil, Nat.zero_le _, h, fun x hx => by cases hx⟩
theorem keys_set (L : VL) (h : List Nat) (b : Bool) : keys (setV L h b) = keys L := by
  unfold keys setV
  rw [List.map_map]
  refine List.map_congr_left fun p _ => ?_
  simp only [Function.comp]
  split <;> rfl
theorem keys_app (L : VL) (h : List Nat) (b : Bool) : keys (L ++ [(h, b)]) = keys L ++ [h] := by simp [keys]
theorem keys_tail (L : VL) : keys L.tail = (keys L).tail := by cases L <;> rfl
theorem get_in {L : VL} {h : List Nat} : (getV L h).isSome = true ↔ h ∈ keys L := by
  induction L with
  | nil => simp [getV, keys]
  | cons p L ih =>
    unfold getV
    by_cases e : p.1 = h
    · rw [if_pos e]; simp [keys, e]
    · rw [if_neg e, ih]
      simp only [keys, List.map_cons, List.mem_cons]
      exact ⟨.inr, fun q => q.resolve_left fun q => e q.symm⟩
theorem get_none {L : VL} {h : List Nat} (hn : h ∉ keys L) : getV L h = none := by
  cases e : getV L h with
  | none => rfl
  | some v => exact absurd (get_in.1 (by rw [e]; rfl)) hn
theorem get_app (L M : VL) (h : List Nat) : getV (L ++ M) h = if h ∈ keys L then getV L h else getV M h := by
  induction L with
  | nil => simp [keys]
  | cons p L ih =>
    show getV (p :: (L ++ M)) h = _
    unfold getV
    by_cases e : p.1 = h
    · rw [if_pos e, if_pos e, if_pos (by simp [keys, e])]
    · rw [if_neg e, if_neg e, ih]
      by_cases g : h ∈ keys L
      · rw [if_pos g, if_pos (by simp only [keys, List.map_cons, List.mem_cons]; exact .inr g)]
      · rw [if_neg g, if_neg (fun q => by
          simp only [keys, List.map_cons, List.mem_cons] at q
          exact g (q.resolve_left fun q => e q.symm))]
        cases M <;> rfl
theorem get_set (L : VL) (x : List Nat) (b : Bool) (h : List Nat) : getV (setV L x b) h = if x = h ∧ x ∈ keys L then some b else getV L h := by
  induction L with
  | nil => simp [setV, keys, getV]
  | cons p L ih =>
    show getV ((if p.1 = x then (p.1, b) else p) :: setV L x b) h = _
    unfold getV
    by_cases e : p.1 = x
    · rw [if_pos e]
      by_cases g : p.1 = h
      · rw [if_pos g, if_pos ⟨e ▸ g, by simp [keys, e]⟩]
      · rw [if_neg g, if_neg g, ih, if_neg (fun q => g (e.trans q.1)), if_neg (fun q => g (e.trans q.1))]
    · rw [if_neg e]
      by_cases g : p.1 = h
      · rw [if_pos g, if_pos g, if_neg (fun q => e (g.trans q.1.symm))]
      · rw [if_neg g, if_neg g, ih]
        by_cases q : x = h ∧ x ∈ keys L
        · rw [if_pos q, if_pos ⟨q.1, by simp only [keys, List.map_cons, List.mem_cons]; exact .inr q.2⟩]
        · rw [if_neg q, if_neg (fun k => q ⟨k.1, by
            have := k.2
            simp only [keys, List.map_cons, List.mem_cons] at this
            exact this.resolve_left fun z => e z.symm⟩)]
theorem full_no {r : Nat} {L : VL} {h : List Nat} (hi : h ∈ keys L) : fullV r L h = false := decide_eq_false fun q => q.1 hi
theorem full_room {r : Nat} {L : VL} {h : List Nat} (hl : L.length < r) : fullV r L h = false := decide_eq_false fun q => by have := q.2; omega
theorem full_yes {r : Nat} {L : VL} {h : List Nat} (hn : h ∉ keys L) (hl : ¬ L.length < r) : fullV r L h = true := decide_eq_true ⟨hn, by omega⟩
theorem put_in {r : Nat} {L : VL} {h : List Nat} {b : Bool} (hi : h ∈ keys L) : putV r L h b = setV L h b := if_pos hi
theorem put_room {r : Nat} {L : VL} {h : List Nat} {b : Bool} (hn : h ∉ keys L) (hl : L.length < r) : putV r L h b = L ++ [(h, b)] := (if_neg hn).trans (if_pos hl)
theorem put_full {r : Nat} {L : VL} {h : List Nat} {b : Bool} (hn : h ∉ keys L) (hl : ¬ L.length < r) : putV r L h b = L.tail ++ [(h, b)] := (if_neg hn).trans (if_neg hl)
theorem len_put {r : Nat} {L : VL} (k : VOk r L) (h : List Nat) (b : Bool) : (putV r L h b).length = if h ∈ keys L ∨ fullV r L h = true then L.length else L.length + 1 := by
  have hp := k.pos
  have hk := k.len
  by_cases hi : h ∈ keys L
  · rw [put_in hi, if_pos (.inl hi)]; exact List.length_map ..
  · by_cases hl : L.length < r
    · rw [put_room hi hl, if_neg (fun q => q.elim hi fun q => by rw [full_room hl] at q; cases q)]; simp
    · rw [put_full hi hl, if_pos (.inr (full_yes hi hl)), List.length_append, List.length_tail, List.length_singleton]; omega
theorem put_ok {r : Nat} {L : VL} (k : VOk r L) {h : List Nat} (hh : H32 h) (b : Bool) : VOk r (putV r L h b) := by
  have hk := k.len
  have hp := k.pos
  by_cases hi : h ∈ keys L
  · have e : keys (putV r L h b) = keys L := by rw [put_in hi, keys_set]
    refine ⟨by rw [e]; exact k.nd, ?_, k.pos, by rw [e]; exact k.ok⟩
    rw [len_put k, if_pos (.inl hi)]; exact hk
  · by_cases hl : L.length < r
    · have e : keys (putV r L h b) = keys L ++ [h] := by rw [put_room hi hl, keys_app]
      refine ⟨?_, ?_, k.pos, ?_⟩
      · rw [e, List.nodup_append]
        refine ⟨k.nd, by simp, fun a ha c hc => ?_⟩
        rw [List.mem_singleton] at hc
        subst hc
        exact fun q => hi (q ▸ ha)
      · rw [put_room hi hl]; simp; omega
      · rw [e]
        intro x hx
        rcases List.mem_append.1 hx with hx | hx
        · exact k.ok x hx
        · rw [List.mem_singleton] at hx; rw [hx]; exact hh
    · have e : keys (putV r L h b) = (keys L).tail ++ [h] := by rw [put_full hi hl, keys_app, keys_tail]
      refine ⟨?_, ?_, k.pos, ?_⟩
      · rw [e, List.nodup_append]
        refine ⟨(List.tail_sublist _).nodup k.nd, by simp, fun a ha c hc => ?_⟩
        rw [List.mem_singleton] at hc
        subst hc
        exact fun q => hi (q ▸ List.mem_of_mem_tail ha)
      · rw [put_full hi hl, List.length_append, List.length_tail, List.length_singleton]; omega
      · rw [e]
        intro x hx
        rcases List.mem_append.1 hx with hx | hx
        · exact k.ok x (List.mem_of_mem_tail hx)
        · rw [List.mem_singleton] at hx; rw [hx]; exact hh
/-- What is told with one put: that one is; the one that is given up isn't; the others are as they were. -/
theorem get_put {r : Nat} {L : VL} (k : VOk r L) (x : List Nat) (b : Bool) (h : List Nat) : getV (putV r L x b) h = if x = h then some b else if fullV r L x = true ∧ goneV r L x = h then none else getV L h := by
  have hk := k.len
  have hp := k.pos
  by_cases hi : x ∈ keys L
  · rw [put_in hi, get_set]
    by_cases e : x = h
    · rw [if_pos ⟨e, hi⟩, if_pos e]
    · rw [if_neg (fun q => e q.1), if_neg e, if_neg (fun q => by rw [full_no hi] at q; exact absurd q.1 Bool.false_ne_true)]
  · have hx : ∀ M : VL, x ∉ keys M → getV (M ++ [(x, b)]) h = if x = h then some b else getV M h := by
      intro M hM
      rw [get_app]
      by_cases e : x = h
      · subst e
        rw [if_neg hM, if_pos rfl]
        unfold getV
        exact if_pos rfl
      · rw [if_neg e]
        by_cases g : h ∈ keys M
        · exact if_pos g
        · rw [if_neg g, get_none g]
          unfold getV
          rw [if_neg e]
          rfl
    by_cases hl : L.length < r
    · rw [put_room hi hl, hx L hi]
      by_cases e : x = h
      · rw [if_pos e, if_pos e]
      · rw [if_neg e, if_neg e, if_neg (fun q => by rw [full_room hl] at q; exact absurd q.1 Bool.false_ne_true)]
    · have hf := full_yes hi hl
      rw [put_full hi hl, hx _ (fun q => hi (List.mem_of_mem_tail (keys_tail L ▸ q)))]
      by_cases e : x = h
      · rw [if_pos e, if_pos e]
      · rw [if_neg e, if_neg e]
        obtain ⟨p, M, rfl⟩ : ∃ p M, L = p :: M := by
          cases L with
          | nil => exact absurd (show ([] : VL).length < r from hp) hl
          | cons p M => exact ⟨p, M, rfl⟩
        have hg : goneV r (p :: M) x = p.1 := by unfold goneV; rw [hf]; rfl
        have hd : p.1 ∉ keys M := (List.nodup_cons.1 (show (p.1 :: keys M).Nodup from k.nd)).1
        rw [hg]
        by_cases g : p.1 = h
        · rw [if_pos ⟨hf, g⟩]
          exact get_none (g ▸ hd)
        · rw [if_neg (fun q => g q.2)]
          exact (if_neg (α := Option Bool) (t := some p.2) g).symm
/-- Of digests that came, each once: those that stand, and those that were given up. -/
structure LastV (r : Nat) (came gone : List (List Nat)) (L : VL) : Prop where
  nd : came.Nodup
  ke : keys L = came.drop (came.length - r)
  go : gone = came.take (came.length - r)
theorem last_nil (r : Nat) : LastV r [] [] [] := ⟨List.nodup_nil, by simp [keys], by simp⟩
theorem last_len {r : Nat} {came gone : List (List Nat)} {L : VL} (h : LastV r came gone L) : L.length = came.length - (came.length - r) := by rw [← keys_len, h.ke, List.length_drop]
theorem last_step {r : Nat} {came gone : List (List Nat)} {L : VL} (hr : 1 ≤ r) (k : LastV r came gone L) {h : List Nat} (hn : h ∉ came) (b : Bool) :
    LastV r (came ++ [h]) (if fullV r L h = true then gone ++ [goneV r L h] else gone) (putV r L h b) := by
  have hl := last_len k
  have hi : h ∉ keys L := fun q => hn (List.mem_of_mem_drop (k.ke ▸ q))
  have nd : (came ++ [h]).Nodup := by
    rw [List.nodup_append]
    refine ⟨k.nd, by simp, fun a ha c hc => ?_⟩
    rw [List.mem_singleton] at hc
    subst hc
    exact fun q => hn (q ▸ ha)
  by_cases hc : L.length < r
  · have hz : came.length - r = 0 := by omega
    have hz' : (came ++ [h]).length - r = 0 := by rw [List.length_append, List.length_singleton]; omega
    refine ⟨nd, ?_, ?_⟩
    · rw [put_room hi hc, keys_app, k.ke, hz, hz']; rfl
    · rw [full_room hc, if_neg Bool.false_ne_true, k.go, hz, hz']; rfl
  · have hlen : r ≤ came.length := by omega
    have hs : (came ++ [h]).length - r = came.length - r + 1 := by rw [List.length_append, List.length_singleton]; omega
    refine ⟨nd, ?_, ?_⟩
    · rw [put_full hi hc, keys_app, keys_tail, k.ke, hs, List.tail_drop, List.drop_append_of_le_length (by omega)]
    · have hf := full_yes hi hc
      rw [if_pos hf, hs, k.go]
      unfold goneV
      rw [if_pos hf, k.ke, List.take_append_of_le_length (by omega), List.take_add_one]
      congr 1
      have : came.length - r < came.length := by omega
      rw [List.getElem?_eq_getElem this, List.drop_eq_getElem_cons this]
      rfl
end Go.Proofs.Ytbpghogdjpobnaa.Vd
