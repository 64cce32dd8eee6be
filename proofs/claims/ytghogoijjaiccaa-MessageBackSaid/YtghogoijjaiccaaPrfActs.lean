/-
  Puts (of layer 16's statements) as cells and in slices; paths, claims and puts that came in, opened. Over this seat's translation.
-/
import Derived.Test.YtghogoijjaiccaaPrfAll
import Derived.Test.YtghogoijjaiccaaSlisAll
import Derived.Test.YtghogoijjaiccaaAccReads
import Derived.Test.YtghogoijjaiccaaEpoReads
import Derived.Test.YtghogoijjaiccaaFitAll
namespace Go.Proofs.Ytghogoijjaiccaa.Pf
open Go.ChangeShapes Go.WideShapes Go.ChangeAt Go.RowKit Go.Proofs.Ytghogoijjaiccaa.Mem Go.Proofs.Ytghogoijjaiccaa.Bt Go.Proofs.Ytghogoijjaiccaa.Ac Go.Proofs.Ytghogoijjaiccaa.Im Go.Proofs.Ytghogoijjaiccaa.Tr
open Go.Proofs.Ytghogoijjaiccaa.Ep (H32 zh zh_ok Has h_len one_app)
open Go.Proofs.Ytghogoijjaiccaa.Sl (Kind)
set_option linter.unusedVariables false
set_option linter.unusedSimpArgs false

/-- An account that is set at a place. -/
structure Puta where
  pl : Int
  ac : Acct
structure Puta.Ok (x : Puta) : Prop where
  pl : Is64 x.pl
  ac : x.ac.Ok
theorem path_und : Try.prog.underlying 40 = some (.array 4 24) := by kernel_rfl
theorem four_parts {cs : List Value} (h : cs.length = 128) : cs = chunk cs 0 32 ++ (chunk cs 32 32 ++ (chunk cs 64 32 ++ (chunk cs 96 32 ++ []))) := by
  unfold chunk
  rw [List.append_nil, List.drop_zero]
  have e3 : (cs.drop 96).take 32 = cs.drop 96 := List.take_of_length_le (by rw [List.length_drop]; omega)
  have s : ∀ n, (cs.drop n).take 32 ++ cs.drop (n + 32) = cs.drop n := fun n => by rw [← List.drop_drop]; exact List.take_append_drop 32 (cs.drop n)
  rw [e3]
  have s2 := s 64; have s1 := s 32; have s0 := s 0
  simp only [Nat.reduceAdd, Nat.zero_add, List.drop_zero] at s0 s1 s2
  rw [s2, s1, s0]
section
variable {H : Type} {enc : TypeId × Value → H} {w : World} {base : Nat} {spare : Nat → Bool} {held : Bool} {fuel : Nat} {cs : List Value} {x : DataW H × List MemPlace}
set_option maxRecDepth 100000 in
theorem path_of (h : DataW.trod enc Try.prog w base spare held fuel 40 cs = some x) : ∃ L : List (List Nat), cs = dgC L ∧ P4 L := by
  have h1 := came_trod 3 _ _ _ _ (by kernel_rfl) h
  unfold Mem.Came at h1
  rw [path_und] at h1
  obtain ⟨hl, hf⟩ := h1
  rw [show Try.prog.cellsOf 40 = 128 by kernel_rfl] at hl
  have c1 : Try.prog.cellsOf 24 = 32 := by kernel_rfl
  have g : ∀ i, i < 4 → ∃ b, chunk cs (i * 32) 32 = u8s b ∧ H32 b := fun i hi => by
    have := hf i hi
    rw [c1] at this
    exact Ep.c_hash this
  obtain ⟨b0, e0, k0⟩ := g 0 (by omega)
  obtain ⟨b1, e1, k1⟩ := g 1 (by omega)
  obtain ⟨b2, e2, k2⟩ := g 2 (by omega)
  obtain ⟨b3, e3, k3⟩ := g 3 (by omega)
  refine ⟨[b0, b1, b2, b3], ?_, ⟨fun y hy => ?_, rfl⟩⟩
  · have e := four_parts hl
    simp only [Nat.zero_mul, Nat.one_mul, Nat.reduceMul] at e0 e1 e2 e3
    rw [e0, e1, e2, e3] at e
    exact e
  · simp only [List.mem_cons, List.not_mem_nil, or_false] at hy
    rcases hy with rfl | rfl | rfl | rfl <;> assumption
end
section
variable {H : Type} {enc : TypeId × Value → H} {P : Program} {w : World} {base : Nat} {spare : Nat → Bool} {held : Bool}
theorem trodAll_six {t0 t1 t2 t3 t4 t5 : TypeId} {args : Array Value} {ds : List (DataW H)} {ps : List MemPlace} (h : DataW.TrodAll enc P w base spare held [t0, t1, t2, t3, t4, t5] args.toList ds ps) :
    ∃ v0 v1 v2 v3 v4 v5 d0 d1 d2 d3 d4 d5 p0 p1 p2 p3 p4 p5, args = #[v0, v1, v2, v3, v4, v5] ∧ ds = [d0, d1, d2, d3, d4, d5] ∧ ps = p0 ++ (p1 ++ (p2 ++ (p3 ++ (p4 ++ p5)))) ∧ DataW.Trod enc P w base spare held t0 v0 d0 p0 ∧ DataW.Trod enc P w base spare held t1 v1 d1 p1 ∧ DataW.Trod enc P w base spare held t2 v2 d2 p2 ∧ DataW.Trod enc P w base spare held t3 v3 d3 p3 ∧ DataW.Trod enc P w base spare held t4 v4 d4 p4 ∧ DataW.Trod enc P w base spare held t5 v5 d5 p5 := by
  obtain ⟨v0, vs0, d0, ds0, p0, q0, ha, rfl, rfl, h0, r0⟩ := trodAll_cons h
  obtain ⟨v1, vs1, d1, ds1, p1, q1, rfl, rfl, rfl, h1, r1⟩ := trodAll_cons r0
  obtain ⟨v2, vs2, d2, ds2, p2, q2, rfl, rfl, rfl, h2, r2⟩ := trodAll_cons r1
  obtain ⟨v3, vs3, d3, ds3, p3, q3, rfl, rfl, rfl, h3, r3⟩ := trodAll_cons r2
  obtain ⟨v4, vs4, d4, ds4, p4, q4, rfl, rfl, rfl, h4, r4⟩ := trodAll_cons r3
  obtain ⟨v5, vs5, d5, ds5, p5, q5, rfl, rfl, rfl, h5, r5⟩ := trodAll_cons r4
  obtain ⟨rfl, rfl, rfl⟩ := trodAll_nil r5
  exact ⟨v0, v1, v2, v3, v4, v5, d0, d1, d2, d3, d4, d5, p0, p1, p2, p3, p4, p5, by cases args; simp_all, rfl, by simp, h0, h1, h2, h3, h4, h5⟩
theorem trodAll_mk6 {t0 t1 t2 t3 t4 t5 : TypeId} {v0 v1 v2 v3 v4 v5 : Value} {d0 d1 d2 d3 d4 d5 : DataW H} {p0 p1 p2 p3 p4 p5 : List MemPlace} (h0 : DataW.Trod enc P w base spare held t0 v0 d0 p0) (h1 : DataW.Trod enc P w base spare held t1 v1 d1 p1) (h2 : DataW.Trod enc P w base spare held t2 v2 d2 p2) (h3 : DataW.Trod enc P w base spare held t3 v3 d3 p3) (h4 : DataW.Trod enc P w base spare held t4 v4 d4 p4) (h5 : DataW.Trod enc P w base spare held t5 v5 d5 p5) :
    DataW.TrodAll enc P w base spare held [t0, t1, t2, t3, t4, t5] [v0, v1, v2, v3, v4, v5] [d0, d1, d2, d3, d4, d5] (p0 ++ (p1 ++ (p2 ++ (p3 ++ (p4 ++ p5))))) := ⟨p0, _, h0, ⟨p1, _, h1, ⟨p2, _, h2, ⟨p3, _, h3, trodAll_mk2 h4 h5, rfl⟩, rfl⟩, rfl⟩, rfl⟩
end
/-- A claim as one thing. -/
structure Cla where
  ac : Acct
  pa : List (List Nat)
structure Cla.Ok (c : Cla) : Prop where
  ac : c.ac.Ok
  pa : P4 c.pa
section
variable {H : Type} {enc : TypeId × Value → H} {w : World} {base : Nat} {spare : Nat → Bool} {held : Bool} {fuel : Nat} {cs : List Value} {x : DataW H × List MemPlace}
end
end Go.Proofs.Ytghogoijjaiccaa.Pf
