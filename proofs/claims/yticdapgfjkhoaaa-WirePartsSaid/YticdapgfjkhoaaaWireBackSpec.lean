/-
  What is written is read; what is cut goes wrong: over lists. No program.
-/
import Derived.Test.YticdapgfjkhoaaaWireReadT
namespace Go.Proofs.Yticdapgfjkhoaaa.Wi
open Go.RowKit Go.Proofs.Yticdapgfjkhoaaa.Mem Go.Proofs.Yticdapgfjkhoaaa.Bt Go.Proofs.Yticdapgfjkhoaaa.Tg
set_option linter.unusedVariables false

theorem takeR_all (bs rest : List Nat) (e k : Nat) (h : bs.length = k) : takeR k (bs ++ rest, e) = (bs, (rest, e)) := by
  subst h
  unfold takeR
  rw [if_pos (by simp)]
  simp
theorem takeR_short (bs : List Nat) (k : Nat) (h : bs.length < k) : takeR k (bs, 0) = ([], ([], 3)) := by
  unfold takeR
  rw [if_neg (show ¬ k ≤ bs.length by omega)]
  rfl
theorem takeR_stay (k : Nat) : takeR k ([], 3) = ([], ([], 3)) := by
  unfold takeR
  split
  · simp
  · rfl
theorem numR_all (bs rest : List Nat) (e k : Nat) (h : bs.length = k) : numR k (bs ++ rest, e) = (numOf bs, (rest, e)) := by
  unfold numR; rw [takeR_all bs rest e k h]
theorem numR_short (bs : List Nat) (k : Nat) (h : bs.length < k) : numR k (bs, 0) = (0, ([], 3)) := by
  unfold numR; rw [takeR_short bs k h]; rfl
theorem numR_stay (k : Nat) : numR k ([], 3) = (0, ([], 3)) := by unfold numR; rw [takeR_stay]; rfl
theorem numOf_one (a : Nat) : numOf [a] = a := by simp [numOf]
theorem okT_text {x : Thing} (h : okT x = true) (k : x.kind = 4) : x.b.length ≤ 255 := by
  unfold okT at h
  rw [decide_eq_true k] at h
  simp at h
  exact h
/-- WHAT IS WRITTEN IS READ. -/
theorem rd_back {w : World} (x : Thing) (hx : ThingOk w x) (hok : okT x = true) (rest : List Nat) : rdT x (encT x ++ rest, 0) = (true, (rest, 0)) := by
  unfold rdT encT
  by_cases k0 : x.kind = 0
  · rw [if_pos k0, if_pos k0, numR_all [x.n % 256] rest 0 1 rfl, numOf_one]
    simp
  by_cases k1 : x.kind = 1
  · rw [if_neg k0, if_pos k1, if_neg k0, if_pos k1, numR_all (put x.n 4) rest 0 4 (put_length _ _), numOf_put]
    simp
  by_cases k2 : x.kind = 2
  · have := hx.n_
    rw [if_neg k0, if_neg k1, if_pos k2, if_neg k0, if_neg k1, if_pos k2, numR_all (put x.n 8) rest 0 8 (put_length _ _), numOf_put, Nat.mod_eq_of_lt (by omega)]
    simp
  by_cases k3 : x.kind = 3
  · rw [if_neg k0, if_neg k1, if_neg k2, if_pos k3, if_neg k0, if_neg k1, if_neg k2, if_pos k3]
    unfold hashR
    rw [takeR_all x.h rest 0 32 hx.h_, if_pos (by simp; have := hx.h_; omega)]
    have e : (x.h ++ rest, 0).1.take 32 = x.h := by simp only; rw [← hx.h_]; simp
    rw [e]
    simp
  by_cases k4 : x.kind = 4
  · have hb := okT_text hok k4
    rw [if_neg k0, if_neg k1, if_neg k2, if_neg k3, if_pos k4, if_neg k0, if_neg k1, if_neg k2, if_neg k3, if_pos k4]
    have e : txt x.b ++ rest = [x.b.length] ++ (x.b ++ rest) := by unfold txt; rw [if_pos hb]; simp
    unfold textR
    rw [e, numR_all [x.b.length] (x.b ++ rest) 0 1 rfl, numOf_one, if_neg (by simp; omega), takeR_all x.b rest 0 _ rfl]
    simp
  · rw [if_neg k0, if_neg k1, if_neg k2, if_neg k3, if_neg k4, if_neg k0, if_neg k1, if_neg k2, if_neg k3, if_neg k4]
    simp
theorem hashR_short (bs : List Nat) (h : bs.length < 32) : (hashR (bs, 0)).2 = ([], 3) := by unfold hashR; rw [takeR_short bs 32 h]
theorem hashR_stay : (hashR ([], 3)).2 = ([], 3) := by unfold hashR; rw [takeR_stay]
theorem textR_stay : textR 255 ([], 3) = ([], ([], 3)) := by unfold textR; rw [numR_stay]; rw [if_neg (by decide)]; exact takeR_stay 0
/-- What went wrong stays. -/
theorem rd_stay (x : Thing) : (rdT x ([], 3)).2 = ([], 3) := by
  unfold rdT
  split
  · rw [numR_stay]
  · split
    · rw [numR_stay]
    · split
      · rw [numR_stay]
      · split
        · rw [hashR_stay]
        · split
          · rw [textR_stay]
          · rfl
/-- WHAT IS CUT GOES WRONG. -/
theorem rd_short {w : World} (x : Thing) (hx : ThingOk w x) (hok : okT x = true) (c : Nat) (hc : c < (encT x).length) : (rdT x ((encT x).take c, 0)).2 = ([], 3) := by
  have hl : ((encT x).take c).length = c := by rw [List.length_take]; omega
  unfold rdT
  unfold encT at hc hl ⊢
  by_cases k0 : x.kind = 0
  · rw [if_pos k0] at hc hl ⊢
    rw [if_pos k0, numR_short _ 1 (by rw [hl]; simpa using hc)]
  by_cases k1 : x.kind = 1
  · rw [if_neg k0, if_pos k1] at hc hl ⊢
    rw [put_length] at hc
    rw [if_neg k0, if_pos k1, numR_short _ 4 (by rw [hl]; exact hc)]
  by_cases k2 : x.kind = 2
  · rw [if_neg k0, if_neg k1, if_pos k2] at hc hl ⊢
    rw [put_length] at hc
    rw [if_neg k0, if_neg k1, if_pos k2, numR_short _ 8 (by rw [hl]; exact hc)]
  by_cases k3 : x.kind = 3
  · rw [if_neg k0, if_neg k1, if_neg k2, if_pos k3] at hc hl ⊢
    rw [hx.h_] at hc
    rw [if_neg k0, if_neg k1, if_neg k2, if_pos k3, hashR_short _ (by rw [hl]; exact hc)]
  by_cases k4 : x.kind = 4
  · have hb := okT_text hok k4
    rw [if_neg k0, if_neg k1, if_neg k2, if_neg k3, if_pos k4] at hc hl ⊢
    rw [if_neg k0, if_neg k1, if_neg k2, if_neg k3, if_pos k4]
    have e : txt x.b = x.b.length :: x.b := by unfold txt; rw [if_pos hb]
    rw [e] at hc ⊢
    rw [List.length_cons] at hc
    unfold textR
    cases c with
    | zero => rw [List.take_zero, numR_short [] 1 (by simp), if_neg (by decide)]; simp only [takeR_stay]
    | succ c =>
      rw [List.take_succ_cons, show x.b.length :: x.b.take c = [x.b.length] ++ x.b.take c from rfl, numR_all [x.b.length] _ 0 1 rfl, numOf_one, if_neg (by simp; omega), takeR_short _ _ (by rw [List.length_take]; omega)]
  · rw [if_neg k0, if_neg k1, if_neg k2, if_neg k3, if_neg k4] at hc
    simp at hc
theorem take_append_short (a b : List Nat) (c : Nat) (h : c < a.length) : (a ++ b).take c = a.take c := by
  rw [List.take_append, show c - a.length = 0 by omega]; simp
theorem take_append_long (a b : List Nat) (c : Nat) (h : a.length ≤ c) : (a ++ b).take c = a ++ b.take (c - a.length) := by
  rw [List.take_append, List.take_of_length_le h]
/-- Where the bytes of the things from k on are cut behind c of them. -/
def Cut (l : List Thing) (k : Nat) (s : RS) : Prop := s = ([], 3) ∨ ∃ c, c < (encs (l.drop k)).length ∧ s = ((encs (l.drop k)).take c, 0)
theorem Cut.next {w : World} {l : List Thing} {k : Nat} {s : RS} (h : Cut l k s) (hk : k < l.length) (hx : ThingOk w (l.getD k default)) (hok : okT (l.getD k default) = true) : Cut l (k + 1) (rdT (l.getD k default) s).2 := by
  rcases h with rfl | ⟨c, hc, rfl⟩
  · exact .inl (rd_stay _)
  · rw [encs_drop l k hk] at hc ⊢
    rw [List.length_append] at hc
    rcases Nat.lt_or_ge c (encT (l.getD k default)).length with hlt | hge
    · left
      rw [take_append_short _ _ _ hlt]
      exact rd_short _ hx hok c hlt
    · right
      refine ⟨c - (encT (l.getD k default)).length, by omega, ?_⟩
      rw [take_append_long _ _ _ hge, rd_back _ hx hok]
theorem Cut.done {l : List Thing} {s : RS} (h : Cut l l.length s) : s = ([], 3) := by
  rcases h with h | ⟨c, hc, _⟩
  · exact h
  · rw [List.drop_length] at hc; simp [encs] at hc
end Go.Proofs.Yticdapgfjkhoaaa.Wi
