/-
  Lines of states: of which each follows the one ahead; their beginnings and ends; one left out. Blocks in slices. Over this seat's translation.
-/
import Derived.Test.YtphbpndjebfacaaDoorLnkSpec
import Derived.Test.YtphbpndjebfacaaDoorGroMem
namespace Go.Proofs.YtphbpndjebfacaaDoor.Lk
open Go.ChangeShapes Go.WideShapes Go.ChangeAt Go.RowKit Go.Proofs.YtphbpndjebfacaaDoor.Mem Go.Proofs.YtphbpndjebfacaaDoor.Bt Go.Proofs.YtphbpndjebfacaaDoor.Rg Go.Proofs.YtphbpndjebfacaaDoor.Wn Go.Proofs.YtphbpndjebfacaaDoor.Sa Go.Proofs.YtphbpndjebfacaaDoor.Sha Go.Proofs.YtphbpndjebfacaaDoor.Gr Go.Proofs.YtphbpndjebfacaaDoor.Sl
open Go.Proofs.YtphbpndjebfacaaDoor.Ep (H32 Dat Blk zh zh_ok num32 zd zd_ok Has h_len one_app one_num szH zH fitH allH)
set_option linter.unusedVariables false
set_option linter.unusedSimpArgs false

theorem gbOf_chS {s : Sta} {b : Gb} (h : chE s b = 0) : gbOf (chS s b) = b := by rw [chS_fine (chE_zero.1 h)]; rfl
theorem fol_chS {s : Sta} {b : Gb} (h : chE s b = 0) : folE s (chS s b) = 0 := folE_yes (by rw [gbOf_chS h]; exact h) (by rw [gbOf_chS h])
theorem len_chS {s : Sta} {b : Gb} (h : chE s b = 0) : (chS s b).len = s.len + 1 := by rw [chS_fine (chE_zero.1 h), grown_fine (chE_zero.1 h)]
theorem len_fol {s c : Sta} (h : folE s c = 0) : c.len = s.len + 1 := by
  obtain ⟨h1, h2⟩ := folE_zero.1 h
  rw [← len_chS h1, h2]
/-- Each follows the one ahead of it. -/
def IsLine (l : List Sta) : Prop := ∀ k a b, l[k]? = some a → l[k + 1]? = some b → folE a b = 0
theorem IsLine.tail {t : Sta} {l : List Sta} (h : IsLine (t :: l)) : IsLine l := fun k a b ha hb => h (k + 1) a b (by simpa using ha) (by simpa using hb)
theorem IsLine.take {l : List Sta} (h : IsLine l) (m : Nat) : IsLine (l.take m) := fun k a b ha hb => by
  rw [List.getElem?_take] at ha hb
  split at ha
  · split at hb
    · exact h k a b ha hb
    · cases hb
  · cases ha
theorem IsLine.drop {l : List Sta} (h : IsLine l) (m : Nat) : IsLine (l.drop m) := fun k a b ha hb => by
  rw [List.getElem?_drop] at ha hb
  exact h (m + k) a b ha hb
theorem IsLine.one (t : Sta) : IsLine [t] := fun k a b ha hb => by simp at hb
theorem IsLine.snoc {l : List Sta} {j : Nat} {t c : Sta} (h : IsLine l) (hj : l.length = j + 1) (ht : l[j]? = some t) (hf : folE t c = 0) : IsLine (l ++ [c]) := fun k a b ha hb => by
  have hk := (List.getElem?_eq_some_iff.1 hb).1
  rw [List.length_append, List.length_cons, List.length_nil] at hk
  rw [List.getElem?_append_left (by omega)] at ha
  by_cases h1 : k + 1 < l.length
  · rw [List.getElem?_append_left h1] at hb
    exact h k a b ha hb
  · obtain rfl : k = j := by omega
    rw [List.getElem?_append_right (by omega), show k + 1 - l.length = 0 by omega] at hb
    obtain rfl : t = a := Option.some.inj (ht.symm.trans ha)
    obtain rfl : c = b := by simpa using hb
    exact hf
theorem lineN_all : ∀ (l : List Sta) (t : Sta) (k : Nat), IsLine (t :: l) → lineN t k l = (k + l.length, 0)
  | [], t, k, _ => rfl
  | c :: l, t, k, h => by
    rw [lineN_cons, if_pos (h 0 t c rfl rfl), lineN_all l c (k + 1) h.tail, List.length_cons, show k + 1 + l.length = k + (l.length + 1) by omega]
theorem lineF_all : ∀ {l : List Sta}, IsLine l → lineF l = (l.length, 0)
  | [], _ => rfl
  | t :: l, h => by
    show lineN t 1 l = _
    rw [lineN_all l t 1 h, List.length_cons, Nat.add_comm]
theorem lineN_gap : ∀ (x : List Sta) (t u c : Sta) (k : Nat) (r : List Sta), IsLine (t :: x) → (t :: x)[x.length]? = some u → folE u c ≠ 0 → lineN t k (x ++ c :: r) = (k + x.length, folE u c)
  | [], t, u, c, k, r, _, hu, hf => by
    obtain rfl : t = u := by simpa using hu
    rw [List.nil_append, lineN_cons, if_neg hf]
    rfl
  | d :: x, t, u, c, k, r, h, hu, hf => by
    rw [List.cons_append, lineN_cons, if_pos (h 0 t d rfl rfl), lineN_gap x d u c (k + 1) r h.tail (by simpa using hu) hf, List.length_cons, show k + 1 + x.length = k + (x.length + 1) by omega]
/-- A line in which one is left out isn't one, but at its ends. -/
theorem lineF_out {l : List Sta} (h : IsLine l) {m : Nat} (h1 : 1 ≤ m) (h2 : m + 1 < l.length) : ∃ e, e ≠ 0 ∧ lineF (l.take m ++ l.drop (m + 1)) = (m, e) := by
  obtain ⟨n, rfl⟩ : ∃ n, m = n + 1 := ⟨m - 1, by omega⟩
  obtain ⟨u, hu⟩ : ∃ u, l[n]? = some u := ⟨_, List.getElem?_eq_getElem (by omega)⟩
  obtain ⟨v, hv⟩ : ∃ v, l[n + 1]? = some v := ⟨_, List.getElem?_eq_getElem (by omega)⟩
  obtain ⟨c, hc⟩ : ∃ c, l[n + 1 + 1]? = some c := ⟨_, List.getElem?_eq_getElem h2⟩
  have l1 := len_fol (h n u v hu hv)
  have l2 := len_fol (h (n + 1) v c hv hc)
  have hf : folE u c ≠ 0 := fun hz => by have := len_fol hz; omega
  refine ⟨folE u c, hf, ?_⟩
  have hd : l.drop (n + 1 + 1) = c :: l.drop (n + 1 + 1 + 1) := by
    obtain ⟨hl, e⟩ := List.getElem?_eq_some_iff.1 hc
    rw [List.drop_eq_getElem_cons hl, e]
  obtain ⟨t, r, hl⟩ : ∃ t r, l = t :: r := by
    cases l with
    | nil => simp at h2
    | cons t r => exact ⟨t, r, rfl⟩
  have hn : (r.take n).length = n := by rw [List.length_take]; rw [hl, List.length_cons] at h2; omega
  have e1 : l.take (n + 1) = t :: r.take n := by rw [hl, List.take_succ_cons]
  have ht := h.take (n + 1)
  rw [e1] at ht
  have h3 : (l.take (n + 1))[n]? = some u := by rw [List.getElem?_take, if_pos (by omega)]; exact hu
  rw [e1] at h3
  rw [hd, e1, List.cons_append]
  show lineN t 1 _ = _
  rw [lineN_gap (r.take n) t u c 1 _ ht (by rw [hn]; exact h3) hf, hn, Nat.add_comm]
/-- A line all of which is right. -/
structure Line1 (l : List Sta) : Prop where
  line : IsLine l
  right : ∀ t ∈ l, SRt t
theorem Line1.one {t : Sta} (h : SRt t) : Line1 [t] := ⟨IsLine.one t, fun s hs => by rw [List.mem_singleton.1 hs]; exact h⟩
theorem Line1.snoc {l : List Sta} {j : Nat} {t : Sta} {b : Gb} (h : Line1 l) (hj : l.length = j + 1) (ht : l[j]? = some t) (hz : chE t b = 0) : Line1 (l ++ [chS t b]) :=
  ⟨h.line.snoc hj ht (fol_chS hz), fun s hs => by
    rcases List.mem_append.1 hs with hs | hs
    · exact h.right s hs
    · rw [List.mem_singleton.1 hs]; exact chS_right (h.right t (List.mem_of_getElem? ht)) hz⟩
theorem Line1.head {l : List Sta} (h : Line1 l) : ∀ t r, l = t :: r → SRt t := fun t r e => h.right t (by rw [e]; simp)
theorem Line1.take {l : List Sta} (h : Line1 l) (m : Nat) : Line1 (l.take m) := ⟨h.line.take m, fun t ht => h.right t (List.mem_of_mem_take ht)⟩
theorem Line1.drop {l : List Sta} (h : Line1 l) (m : Nat) : Line1 (l.drop m) := ⟨h.line.drop m, fun t ht => h.right t (List.mem_of_mem_drop ht)⟩
theorem less_right {l : List Sta} (h : Line1 l) {m k : Nat} : ∀ t r, l.take m ++ l.drop k = t :: r → SRt t := fun t r e => by
  have ht : t ∈ l.take m ++ l.drop k := by rw [e]; simp
  rcases List.mem_append.1 ht with ht | ht
  · exact h.right t (List.mem_of_mem_take ht)
  · exact h.right t (List.mem_of_mem_drop ht)
/-! ### Blocks in slices. -/
abbrev kG : Kind Gb := ⟨gcs, Gb.Ok, zg, 65, 57, 62, 68⟩
theorem fG : kG.Fit Tryd.prog where
  len := fun _ k => gcs_len k
  one := gcs_one
  zok := zg_ok
  pos := (by decide : 0 < 65)
  small := (by decide : 65 ≤ 4096)
  bsmall := (by decide : 68 ≤ 65536)
  und := by kernel_rfl
  row := ⟨.struct (Tryd.prog.fieldsOf 57), by kernel_rfl, rfl⟩
  info := by kernel_rfl
end Go.Proofs.YtphbpndjebfacaaDoor.Lk
