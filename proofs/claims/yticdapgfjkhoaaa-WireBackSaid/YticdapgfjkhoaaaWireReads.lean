/-
  A slice of things that came in, opened. Over this seat's translation.
-/
import Derived.Test.YticdapgfjkhoaaaReadHash
import Derived.Test.YticdapgfjkhoaaaWireThing
namespace Go.Proofs.Yticdapgfjkhoaaa.Wi
open Go.ChangeShapes Go.WideShapes Go.ChangeAt Go.RowKit Go.Proofs.Yticdapgfjkhoaaa.Mem Go.Proofs.Yticdapgfjkhoaaa.Bt Go.Proofs.Yticdapgfjkhoaaa.Tg
set_option linter.unusedVariables false

theorem thing_flds : ∃ f0 f1 f2 f3 f4 : Field, Try.prog.fieldsOf 33 = #[f0, f1, f2, f3, f4] ∧ f0.type = 3 ∧ f0.offset = 0 ∧ f1.type = 29 ∧ f1.offset = 1 ∧ f2.type = 31 ∧ f2.offset = 2 ∧ f3.type = 26 ∧ f3.offset = 34 ∧ f4.type = 3 ∧ f4.offset = 35 :=
  ⟨(Try.prog.fieldsOf 33)[0]!, (Try.prog.fieldsOf 33)[1]!, (Try.prog.fieldsOf 33)[2]!, (Try.prog.fieldsOf 33)[3]!, (Try.prog.fieldsOf 33)[4]!, by kernel_rfl, by kernel_rfl, by kernel_rfl, by kernel_rfl, by kernel_rfl, by kernel_rfl, by kernel_rfl, by kernel_rfl, by kernel_rfl, by kernel_rfl, by kernel_rfl⟩
theorem thing_und : Try.prog.underlying 33 = some (.struct (Try.prog.fieldsOf 33)) := by kernel_rfl
section
variable {H : Type} {enc : TypeId × Value → H} {w : World} {base : Nat} {spare : Nat → Bool} {held : Bool} {fuel : Nat} {cs : List Value} {x : DataW H × List MemPlace}
theorem thing_of (h : DataW.trod enc Try.prog w base spare held fuel 33 cs = some x) : ∃ y : Thing, cs = tcells y ∧ ThingOk w y := by
  obtain ⟨f0, f1, f2, f3, f4, hf, t0, o0, t1, o1, t2, o2, t3, o3, t4, o4⟩ := thing_flds
  have hu := thing_und
  rw [hf] at hu
  obtain ⟨xs, n, rfl, hx, hlen, hn, hel⟩ := DataW.trod_struct hu h
  have c0 : Try.prog.cellsOf 3 = 1 := by kernel_rfl
  have c1 : Try.prog.cellsOf 29 = 1 := by kernel_rfl
  have c2 : Try.prog.cellsOf 31 = 32 := by kernel_rfl
  have c3 : Try.prog.cellsOf 26 = 1 := by kernel_rfl
  have cT : Try.prog.cellsOf 33 = 36 := by kernel_rfl
  rw [cT] at hlen
  have h0 := hel 0 f0 rfl
  have h1 := hel 1 f1 rfl
  have h2 := hel 2 f2 rfl
  have h3 := hel 3 f3 rfl
  have h4 := hel 4 f4 rfl
  rw [t0, o0, c0] at h0
  rw [t1, o1, c1] at h1
  rw [t2, o2, c2] at h2
  rw [t3, o3, c3] at h3
  rw [t4, o4, c0] at h4
  have hxs : ∀ i, i < 5 → ∃ y, xs[i]? = some y := fun i hi => ⟨_, List.getElem?_eq_getElem (by rw [hn]; exact hi)⟩
  obtain ⟨y0, hy0⟩ := hxs 0 (by omega)
  obtain ⟨y1, hy1⟩ := hxs 1 (by omega)
  obtain ⟨y2, hy2⟩ := hxs 2 (by omega)
  obtain ⟨y3, hy3⟩ := hxs 3 (by omega)
  obtain ⟨y4, hy4⟩ := hxs 4 (by omega)
  rw [hy0] at h0
  rw [hy1] at h1
  rw [hy2] at h2
  rw [hy3] at h3
  rw [hy4] at h4
  obtain ⟨k, e0, _, _⟩ := DataW.trod_int Try.underlying3 h0
  obtain ⟨m, e1, _, w1⟩ := DataW.trod_int Try.underlying29 h1
  obtain ⟨hh, e2, hl, hlt⟩ := hash_of (by kernel_rfl) c2 h2
  obtain ⟨p, cap, bs, e3, hcame⟩ := came_of h3
  obtain ⟨ms, e4, _, _⟩ := DataW.trod_int Try.underlying3 h4
  simp [Lit.wf, IntKind.min, IntKind.max, IntKind.signed, IntKind.bits] at w1
  refine ⟨⟨k, m.toNat, hh, bs, p, cap, ms⟩, ?_, ⟨by show m.toNat < _; omega, hl, hlt, hcame⟩⟩
  have hm : ((m.toNat : Nat) : Int) = m := by omega
  have s0 : cs = cs.take 1 ++ cs.drop 1 := (List.take_append_drop 1 cs).symm
  have s1 : cs.drop 1 = (cs.drop 1).take 1 ++ cs.drop 2 := by rw [← List.drop_drop (i := 1) (j := 1)]; exact (List.take_append_drop 1 _).symm
  have s2 : cs.drop 2 = (cs.drop 2).take 32 ++ cs.drop 34 := by rw [← List.drop_drop (i := 32) (j := 2)]; exact (List.take_append_drop 32 _).symm
  have s3 : cs.drop 34 = (cs.drop 34).take 1 ++ cs.drop 35 := by rw [← List.drop_drop (i := 1) (j := 34)]; exact (List.take_append_drop 1 _).symm
  have s4 : cs.drop 35 = (cs.drop 35).take 1 := (List.take_of_length_le (by rw [List.length_drop]; omega)).symm
  rw [List.drop_zero] at e0
  unfold tcells
  rw [s0, e0, s1, e1, s2, e2, s3, e3, s4, e4]
  simp [hm]
/-- Things. -/
theorem things_of (h : DataW.trod enc Try.prog w base spare held fuel 22 cs = some x) : ∃ (P : Option Addr) (l : List Thing) (cap : Nat), cs = [.slice P l.length cap] ∧ Things w P l ∧ l.length ≤ maxLen := by
  have c2 : Try.prog.cellsOf 33 = 36 := by kernel_rfl
  rcases Deep.open_slice Try.underlying22 h with ⟨rfl, _⟩ | ⟨a, len, cap, m, k, D, Pl, rfl, _, hlc, hcm, hmm, _, hV⟩
  · exact ⟨none, [], 0, rfl, ⟨fun h => by simp at h⟩, by simp⟩
  · have hlm : len ≤ m := by rw [hmm]; split <;> omega
    rw [c2] at hV
    obtain ⟨f, hf⟩ := Deep.choose_lt (α := Thing) (n := len) (p := fun i y => (∀ j, j < 36 → w.cell? ((a.add (i * 36)).add j) = (tcells y)[j]?) ∧ ThingOk w y) (fun i hi => by
      obtain ⟨cs', h1, h2⟩ := hV i (by omega)
      obtain ⟨y, rfl, hok⟩ := thing_of h2
      obtain ⟨_, _, hcell⟩ := World.cells?_some h1
      exact ⟨y, hcell, hok⟩)
    have hll : ((List.range len).map f).length = len := by simp
    refine ⟨some a, (List.range len).map f, cap, by rw [hll], ⟨fun hpos => ?_⟩, by rw [hll]; omega⟩
    rw [hll] at hpos
    obtain ⟨hc00, _⟩ := hf 0 hpos
    have hc0 : w.cell? (a.add 0) = some (.int .i64 (f 0).kind) := by
      have := hc00 0 (by omega)
      rw [Nat.zero_mul] at this
      have e : (a.add 0).add 0 = a.add 0 := by simp [Addr.add]
      rw [e] at this
      exact this
    have hsp := spot_none hc0
    obtain ⟨g, o, sp⟩ := a
    simp only at hsp
    subst hsp
    refine ⟨g, o, rfl, block_lt_of_cell hc0, fun i hi => ?_⟩
    rw [hll] at hi
    obtain ⟨hcell, hok⟩ := hf i hi
    rw [getD_map f len i _ hi]
    refine ⟨fun j v hj => ?_, hok⟩
    have hj2 := (List.getElem?_eq_some_iff.1 hj).1
    rw [tcells_len hok.h_] at hj2
    have := hcell j hj2
    rw [Addr.add_mid, Addr.add_mid] at this
    rw [this]
    exact hj
end
end Go.Proofs.Yticdapgfjkhoaaa.Wi
