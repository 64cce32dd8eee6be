/-
  A slice of asks (a name and a digest each) that came in, opened. Over this seat's translation.
-/
import Derived.Test.YtebfdbibeecncaaDoorReads
import Derived.Test.YtebfdbibeecncaaDoorTagLaws3
namespace Go.Proofs.YtebfdbibeecncaaDoor.Tg
open Go.ChangeShapes Go.WideShapes Go.ChangeAt Go.RowKit Go.Proofs.YtebfdbibeecncaaDoor.Mem Go.Proofs.YtebfdbibeecncaaDoor.Bt Go.Proofs.YtebfdbibeecncaaDoor.Sha
set_option linter.unusedVariables false

section
variable {H : Type} {enc : TypeId × Value → H} {w : World} {base : Nat} {spare : Nat → Bool} {held : Bool} {fuel : Nat} {cs : List Value} {x : DataW H × List MemPlace}
theorem ask_of (h : DataW.trod enc Tryd.prog w base spare held fuel 41 cs = some x) : ∃ y : Key, cs = keyCells y ∧ keyOk y ∧ AllLt 256 y.2 := by
  obtain ⟨f0, f1, hf, n0, n1, t0, o0, t1, o1⟩ := key_ask.flds
  have hu := key_ask.und
  rw [hf] at hu
  obtain ⟨xs, n, rfl, hx, hlen, hn, hel⟩ := DataW.trod_struct hu h
  have c0 : Tryd.prog.cellsOf 9 = 1 := by kernel_rfl
  have c1 : Tryd.prog.cellsOf 32 = 32 := by kernel_rfl
  have c2 : Tryd.prog.cellsOf 41 = 33 := by kernel_rfl
  rw [c2] at hlen
  have h0 := hel 0 f0 rfl
  have h1 := hel 1 f1 rfl
  rw [t0, o0, c0] at h0
  rw [t1, o1, c1] at h1
  obtain ⟨y0, hy0⟩ : ∃ y, xs[0]? = some y := ⟨_, List.getElem?_eq_getElem (by rw [hn]; simp)⟩
  obtain ⟨y1, hy1⟩ : ∃ y, xs[1]? = some y := ⟨_, List.getElem?_eq_getElem (by rw [hn]; simp)⟩
  rw [hy0] at h0
  rw [hy1] at h1
  obtain ⟨s, e0, _, _⟩ := DataW.trod_string Tryd.underlying9 h0
  obtain ⟨hh, e1, hl, hlt⟩ := hash_of (by kernel_rfl) c1 h1
  refine ⟨(s, hh), ?_, hl, hlt⟩
  obtain ⟨v, r, rfl⟩ : ∃ v r, cs = v :: r := by
    cases cs with
    | nil => simp at hlen
    | cons v r => exact ⟨v, r, rfl⟩
  have hr : r.length = 32 := by simpa using hlen
  simp only [List.drop_zero, List.take_succ_cons, List.take_zero, List.cons.injEq, and_true] at e0
  rw [List.drop_succ_cons, List.drop_zero, List.take_of_length_le (by omega)] at e1
  unfold keyCells
  rw [e0, e1]
/-- Asks. -/
theorem asks_of (h : DataW.trod enc Tryd.prog w base spare held fuel 36 cs = some x) : ∃ (P : Option Addr) (l : List Key) (cap : Nat), cs = [.slice P l.length cap] ∧ Asks w P l ∧ l.length ≤ maxLen := by
  have c2 : Tryd.prog.cellsOf 41 = 33 := by kernel_rfl
  rcases Deep.open_slice Tryd.underlying36 h with ⟨rfl, _⟩ | ⟨a, len, cap, m, k, D, Pl, rfl, _, hlc, hcm, hmm, _, hV⟩
  · exact ⟨none, [], 0, rfl, ⟨fun h => by simp at h⟩, by simp⟩
  · have hlm : len ≤ m := by rw [hmm]; split <;> omega
    rw [c2] at hV
    obtain ⟨f, hf⟩ := Deep.choose_lt (α := Key) (n := len) (p := fun i y => (∀ j, j < 33 → w.cell? ((a.add (i * 33)).add j) = (keyCells y)[j]?) ∧ keyOk y ∧ AllLt 256 y.2) (fun i hi => by
      obtain ⟨cs', h1, h2⟩ := hV i (by omega)
      obtain ⟨y, rfl, hok, hlt⟩ := ask_of h2
      obtain ⟨_, _, hcell⟩ := World.cells?_some h1
      exact ⟨y, hcell, hok, hlt⟩)
    have hll : ((List.range len).map f).length = len := by simp
    refine ⟨some a, (List.range len).map f, cap, by rw [hll], ⟨fun hpos => ?_⟩, by rw [hll]; omega⟩
    rw [hll] at hpos
    obtain ⟨hc00, _⟩ := hf 0 hpos
    have hc0 : w.cell? (a.add 0) = some (.string (f 0).1) := by
      have := hc00 0 (by omega)
      rw [Nat.zero_mul] at this
      have e : (a.add 0).add 0 = a.add 0 := by simp [Addr.add]
      rw [e] at this
      exact this
    have hsp := spot_none hc0
    obtain ⟨g, o, sp⟩ := a
    simp only at hsp
    subst hsp
    refine ⟨g, o, rfl, block_lt_of_cell hc0, fun i hi => ?_⟩
    rw [hll] at hi
    obtain ⟨hcell, hok, hlt⟩ := hf i hi
    rw [getD_map f len i _ hi]
    refine ⟨fun j v hj => ?_, hok, hlt⟩
    have hj2 := (List.getElem?_eq_some_iff.1 hj).1
    rw [keyCells_len _ hok] at hj2
    have := hcell j hj2
    rw [Addr.add_mid, Addr.add_mid] at this
    rw [this]
    exact hj
end
end Go.Proofs.YtebfdbibeecncaaDoor.Tg
