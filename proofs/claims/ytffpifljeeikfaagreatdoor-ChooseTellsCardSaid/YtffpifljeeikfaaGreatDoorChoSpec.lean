/-
  Which of two states wins, and the tip that is kept of candidates, over numbers and lists: near ones, densities, keys; the fold; of candidates that are all near one another the greatest key is kept, in whatever order they stand.
-/
import Derived.Test.YtffpifljeeikfaaGreatDoorOrdAll
import Derived.Test.YtffpifljeeikfaaGreatDoorStaSpec
import Derived.Test.YtffpifljeeikfaaGreatDoorWinAll
namespace Go.Proofs.YtffpifljeeikfaaGreatDoor.Cz
open Go.Proofs.YtffpifljeeikfaaGreatDoor.Bt Go.Proofs.YtffpifljeeikfaaGreatDoor.Od
open Go.Proofs.YtffpifljeeikfaaGreatDoor.Sa (Sta digS digS_ok SRt zs)
open Go.Proofs.YtffpifljeeikfaaGreatDoor.Wn (relN WRt)
open Go.Proofs.YtffpifljeeikfaaGreatDoor.Ep (H32)
set_option linter.unusedVariables false
set_option linter.unusedSimpArgs false

/-- Two states are a short-range fork. -/
def nearP (a b : Sta) : Prop := (a.slot / 24 = b.slot / 24 ∧ a.now.lock = b.now.lock) ∨ (b.slot / 24 = a.slot / 24 + 1 ∧ 16 ≤ a.slot % 24 ∧ b.now.lock = a.next.lock) ∨ (a.slot / 24 = b.slot / 24 + 1 ∧ 16 ≤ b.slot % 24 ∧ a.now.lock = b.next.lock)
instance (a b : Sta) : Decidable (nearP a b) := by unfold nearP; infer_instance
theorem near_swap {a b : Sta} : nearP a b ↔ nearP b a := by
  unfold nearP
  constructor
  · rintro (⟨h, g⟩ | h | h)
    · exact .inl ⟨h.symm, g.symm⟩
    · exact .inr (.inr h)
    · exact .inr (.inl h)
  · rintro (⟨h, g⟩ | h | h)
    · exact .inl ⟨h.symm, g.symm⟩
    · exact .inr (.inr h)
    · exact .inr (.inl h)
theorem near_self (a : Sta) : nearP a a := .inl ⟨rfl, rfl⟩
theorem near_at0 {e y : Sta} (h : y.slot / 24 = e.slot / 24) : nearP e y ↔ y.now.lock = e.now.lock := by
  unfold nearP
  constructor
  · rintro (g | g | g)
    · exact g.2.symm
    · omega
    · omega
  · exact fun g => .inl ⟨h.symm, g.symm⟩
theorem near_at1 {e y : Sta} (h : y.slot / 24 = e.slot / 24 + 1) : nearP e y ↔ 16 ≤ e.slot % 24 ∧ y.now.lock = e.next.lock := by
  unfold nearP
  constructor
  · rintro (g | g | g)
    · omega
    · exact g.2
    · omega
  · exact fun g => .inr (.inl ⟨h, g⟩)
theorem near_at2 {e y : Sta} (h : e.slot / 24 + 2 ≤ y.slot / 24) : ¬ nearP e y := by
  unfold nearP
  rintro (g | g | g) <;> omega
/-- A state's density as of a slot; the greater one of two slots. -/
def denN (s : Sta) (t : Nat) : Nat := relN s.min s.last s.counts t
def asN (a b : Sta) : Nat := if a.slot < b.slot then b.slot else a.slot
theorem asN_swap (a b : Sta) : asN a b = asN b a := by unfold asN; split <;> split <;> omega
theorem asN_lt {a b : Sta} (h : a.slot < 4294967296) (g : b.slot < 4294967296) : asN a b < 4294967296 := by unfold asN; split <;> omega
theorem denN_lt {s : Sta} (h : s.min < 4294967296) (t : Nat) : denN s t < 4294967296 := Nat.lt_of_le_of_lt (Go.Proofs.YtffpifljeeikfaaGreatDoor.Wn.relN_le _ _ _ _) h
/-- A state's key as a number. -/
def kn (s : Sta) : Nat := kval (keyN s)
/-- A candidate wins against the tip. -/
def winP (t c : Sta) : Prop := if nearP t c then kn t < kn c else denN t (asN t c) < denN c (asN t c) ∨ (denN c (asN t c) = denN t (asN t c) ∧ kn t < kn c)
instance (t c : Sta) : Decidable (winP t c) := by unfold winP; infer_instance
theorem win_near {t c : Sta} (h : nearP t c) : winP t c ↔ kn t < kn c := by unfold winP; rw [if_pos h]
theorem win_far {t c : Sta} (h : ¬ nearP t c) : winP t c ↔ denN t (asN t c) < denN c (asN t c) ∨ (denN c (asN t c) = denN t (asN t c) ∧ kn t < kn c) := by unfold winP; rw [if_neg h]
theorem win_self (a : Sta) : ¬ winP a a := by rw [win_near (near_self a)]; omega
theorem win_once {a b : Sta} (h : winP a b) : ¬ winP b a := by
  by_cases hn : nearP a b
  · rw [win_near hn] at h
    rw [win_near (near_swap.1 hn)]
    omega
  · rw [win_far hn] at h
    rw [win_far (fun g => hn (near_swap.1 g)), asN_swap b a]
    omega
theorem kn_same {a b : Sta} (ka : a.Ok) (kb : b.Ok) (h : kn a = kn b) : keyN a = keyN b := kval_inj (keyN_ok ka) (keyN_ok kb) h
/-- Of two whose digests aren't the same one wins. -/
theorem win_one {a b : Sta} (ka : a.Ok) (kb : b.Ok) (h : digS a ≠ digS b) : winP a b ∨ winP b a := by
  have hk : kn a ≠ kn b := fun e => h (congrArg Ky.hash (kn_same ka kb e))
  by_cases hn : nearP a b
  · rw [win_near hn, win_near (near_swap.1 hn)]
    omega
  · rw [win_far hn, win_far (fun g => hn (near_swap.1 g)), asN_swap b a]
    omega
/-! ### The fold. -/
def stepF (q : Sta × Nat) (c : Sta) : Sta × Nat := if winP q.1 c then (c, q.2 + 1) else q
def foldF (t : Sta) (l : List Sta) : Sta × Nat := l.foldl stepF (t, 0)
theorem foldF_nil (t : Sta) : foldF t [] = (t, 0) := rfl
theorem foldF_snoc (t : Sta) (l : List Sta) (c : Sta) : foldF t (l ++ [c]) = stepF (foldF t l) c := by unfold foldF; rw [List.foldl_append]; rfl
theorem take_snoc {l : List Sta} {k : Nat} {c : Sta} (h : l[k]? = some c) : l.take k ++ [c] = l.take (k + 1) := by rw [List.take_add_one, h]; rfl
theorem foldF_take {t : Sta} {l : List Sta} {k : Nat} {c : Sta} (h : l[k]? = some c) : foldF t (l.take (k + 1)) = stepF (foldF t (l.take k)) c := by rw [← take_snoc h, foldF_snoc]
theorem step_win {q : Sta × Nat} {c : Sta} (h : winP q.1 c) : stepF q c = (c, q.2 + 1) := if_pos h
theorem step_stay {q : Sta × Nat} {c : Sta} (h : ¬ winP q.1 c) : stepF q c = q := if_neg h
theorem fold_three {g a b : Sta} (h1 : winP g a) (h2 : winP a b) (h3 : ¬ winP b a) : foldF g [a, b, a] = (b, 2) := by
  show stepF (stepF (stepF (g, 0) a) b) a = _
  rw [step_win (q := (g, 0)) h1, step_win (q := (a, 0 + 1)) h2, step_stay (q := (b, 0 + 1 + 1)) h3]
theorem fold_ind {p : Sta → Prop} {l : List Sta} (h : ∀ s ∈ l, p s) : ∀ (q : Sta × Nat), p q.1 → p (l.foldl stepF q).1 := by
  induction l with
  | nil => intro q hq; exact hq
  | cons c l ih =>
    intro q hq
    refine ih (fun s hs => h s (by simp [hs])) _ ?_
    unfold stepF
    split
    · exact h c (by simp)
    · exact hq
theorem fold_ok {t : Sta} {l : List Sta} (ht : t.Ok) (h : ∀ s ∈ l, s.Ok) : (foldF t l).1.Ok := fold_ind h (t, 0) ht
theorem fold_right {t : Sta} {l : List Sta} (ht : SRt t) (h : ∀ s ∈ l, SRt s) : SRt (foldF t l).1 := fold_ind h (t, 0) ht
theorem fold_mem {t : Sta} {l : List Sta} : (foldF t l).1 = t ∨ (foldF t l).1 ∈ l := fold_ind (p := fun s => s = t ∨ s ∈ l) (fun s hs => .inr hs) (t, 0) (.inl rfl)
theorem step_le (q : Sta × Nat) (c : Sta) : (stepF q c).2 ≤ q.2 + 1 := by
  unfold stepF
  split
  · exact Nat.le_refl _
  · omega
theorem fold_le : ∀ (l : List Sta) (q : Sta × Nat), (l.foldl stepF q).2 ≤ q.2 + l.length
  | [], q => Nat.le_refl _
  | c :: l, q => by
    have h1 := fold_le l (stepF q c)
    have h2 := step_le q c
    rw [List.foldl_cons, List.length_cons]
    omega
theorem foldF_le (t : Sta) (l : List Sta) : (foldF t l).2 ≤ l.length := by
  have h : (foldF t l).2 ≤ 0 + l.length := fold_le l (t, 0)
  omega
/-- Of candidates that are all near one another, and near the tip, none has a greater key than what is kept. -/
theorem fold_max : ∀ (l : List Sta) (q : Sta × Nat), (∀ a ∈ q.1 :: l, ∀ b ∈ q.1 :: l, nearP a b) → ∀ a ∈ q.1 :: l, kn a ≤ kn (l.foldl stepF q).1
  | [], q, _, a, ha => by
    obtain rfl : a = q.1 := by simpa using ha
    exact Nat.le_refl _
  | c :: l, q, h, a, ha => by
    have hn : nearP q.1 c := h _ (by simp) _ (by simp)
    rw [List.foldl_cons]
    by_cases hw : winP q.1 c
    · rw [step_win hw]
      have ih := fold_max l (c, q.2 + 1) (fun x hx y hy => h x (List.mem_cons_of_mem _ hx) y (List.mem_cons_of_mem _ hy))
      rw [win_near hn] at hw
      rcases List.mem_cons.1 ha with rfl | ha
      · have := ih c (by simp)
        omega
      · exact ih a ha
    · rw [step_stay hw]
      have ih := fold_max l q (fun x hx y hy => h x (by rcases List.mem_cons.1 hx with rfl | hx <;> simp [*]) y (by rcases List.mem_cons.1 hy with rfl | hy <;> simp [*]))
      rw [win_near hn] at hw
      rcases List.mem_cons.1 ha with rfl | ha
      · exact ih _ (by simp)
      · rcases List.mem_cons.1 ha with rfl | ha
        · have := ih q.1 (by simp)
          omega
        · exact ih a (by simp [ha])
/-- All pairs, as the law asks: each one and those ahead of it. -/
theorem near_pairs {l : List Sta} (h : ∀ (n m : Nat) (a b : Sta), l[n]? = some a → m < n → l[m]? = some b → nearP a b) : ∀ a ∈ l, ∀ b ∈ l, nearP a b := fun a ha b hb => by
  obtain ⟨n, hn⟩ := List.mem_iff_getElem?.1 ha
  obtain ⟨m, hm⟩ := List.mem_iff_getElem?.1 hb
  rcases Nat.lt_trichotomy m n with h1 | h1 | h1
  · exact h n m a b hn h1 hm
  · subst h1
    rw [hn] at hm
    rw [Option.some.inj hm]
    exact near_self b
  · exact near_swap.1 (h m n b a hm h1 hn)
theorem foldF_max {t : Sta} {l : List Sta} (h : ∀ a ∈ t :: l, ∀ b ∈ t :: l, nearP a b) : ∀ a ∈ t :: l, kn a ≤ kn (foldF t l).1 := fold_max l (t, 0) h
/-- The key that is kept is the one that stands at the greatest's place. -/
theorem fold_top {t : Sta} {l : List Sta} {j : Nat} {u : Sta} (ok : ∀ s ∈ t :: l, s.Ok) (h : ∀ a ∈ t :: l, ∀ b ∈ t :: l, nearP a b) (hj : Top ((t :: l).map keyN) ((t :: l).map keyN).length j) (hu : (t :: l)[j]? = some u) : keyN (foldF t l).1 = keyN u := by
  have hm : (foldF t l).1 ∈ t :: l := by
    rcases fold_mem (t := t) (l := l) with e | e
    · rw [e]; simp
    · exact List.mem_cons_of_mem _ e
  have h1 := foldF_max h u (List.mem_of_getElem? hu)
  obtain ⟨i, hi⟩ := List.mem_iff_getElem?.1 hm
  have h2 := hj.all i (keyN (foldF t l).1) (keyN u) (by rw [List.length_map]; exact (List.getElem?_eq_some_iff.1 hi).1) (by rw [List.getElem?_map, hi]; rfl) (by rw [List.getElem?_map, hu]; rfl)
  exact kn_same (ok _ hm) (ok _ (List.mem_of_getElem? hu)) (Nat.le_antisymm h2 h1)
/-- Two that change places. -/
def swapL (l : List Sta) (i k : Nat) (a b : Sta) : List Sta := (l.set i b).set k a
theorem swap_len (l : List Sta) (i k : Nat) (a b : Sta) : (swapL l i k a b).length = l.length := by unfold swapL; rw [List.length_set, List.length_set]
theorem swap_mem {l : List Sta} {i k : Nat} {a b : Sta} (ha : l[i]? = some a) (hb : l[k]? = some b) {x : Sta} : x ∈ swapL l i k a b ↔ x ∈ l := by
  have hi := (List.getElem?_eq_some_iff.1 ha).1
  have hk := (List.getElem?_eq_some_iff.1 hb).1
  have hat : ∀ n, (swapL l i k a b)[n]? = if k = n then some a else if i = n then some b else l[n]? := fun n => by
    unfold swapL
    by_cases h1 : k = n
    · subst h1
      rw [List.getElem?_set_self (by rw [List.length_set]; exact hk), if_pos rfl]
    · rw [List.getElem?_set_ne h1, if_neg h1]
      by_cases h2 : i = n
      · subst h2
        rw [List.getElem?_set_self hi, if_pos rfl]
      · rw [List.getElem?_set_ne h2, if_neg h2]
  constructor
  · intro hx
    obtain ⟨n, hn⟩ := List.mem_iff_getElem?.1 hx
    rw [hat] at hn
    split at hn
    · rw [← Option.some.inj hn]; exact List.mem_of_getElem? ha
    · split at hn
      · rw [← Option.some.inj hn]; exact List.mem_of_getElem? hb
      · exact List.mem_of_getElem? hn
  · intro hx
    obtain ⟨n, hn⟩ := List.mem_iff_getElem?.1 hx
    by_cases h1 : k = n
    · subst h1
      rw [hb] at hn
      obtain rfl := Option.some.inj hn
      by_cases h2 : k = i
      · subst h2
        refine List.mem_of_getElem? (i := k) ?_
        rw [hat, if_pos rfl]
        rw [ha] at hb
        exact hb
      · refine List.mem_of_getElem? (i := i) ?_
        rw [hat, if_neg h2, if_pos rfl]
    · by_cases h2 : i = n
      · subst h2
        rw [ha] at hn
        obtain rfl := Option.some.inj hn
        refine List.mem_of_getElem? (i := k) ?_
        rw [hat, if_pos rfl]
      · refine List.mem_of_getElem? (i := n) ?_
        rw [hat, if_neg h1, if_neg h2]
        exact hn
theorem swap_keeps {t : Sta} {l m : List Sta} (ok : ∀ s ∈ t :: l, s.Ok) (h : ∀ a ∈ t :: l, ∀ b ∈ t :: l, nearP a b) (hm : ∀ x, x ∈ m ↔ x ∈ l) : keyN (foldF t m).1 = keyN (foldF t l).1 := by
  have hm' : ∀ x, x ∈ t :: m ↔ x ∈ t :: l := fun x => by rw [List.mem_cons, List.mem_cons, hm]
  have hin : ∀ l : List Sta, (foldF t l).1 ∈ t :: l := fun l => by
    rcases fold_mem (t := t) (l := l) with e | e
    · rw [e]; simp
    · exact List.mem_cons_of_mem _ e
  have h2 : ∀ a ∈ t :: m, ∀ b ∈ t :: m, nearP a b := fun a ha b hb => h a ((hm' a).1 ha) b ((hm' b).1 hb)
  have h3 := foldF_max h _ ((hm' _).1 (hin m))
  have h4 := foldF_max h2 _ ((hm' _).2 (hin l))
  exact kn_same (ok _ ((hm' _).1 (hin m))) (ok _ (hin l)) (Nat.le_antisymm h3 h4)
/-! ### The last candidate. -/
theorem fold_last {t : Sta} {l : List Sta} {c : Sta} : ¬ winP (foldF t (l ++ [c])).1 c := by
  rw [foldF_snoc]
  by_cases h : winP (foldF t l).1 c
  · rw [step_win h]
    exact win_self c
  · rw [step_stay h]
    exact h
end Go.Proofs.YtffpifljeeikfaaGreatDoor.Cz
