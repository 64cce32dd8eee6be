/-
  Puts (of layer 16's statements) as cells and in slices; paths, claims and puts that came in, opened. Over this seat's translation.
-/
import Derived.Test.YtaihhbiocolhcaaDoorPrfMem
import Derived.Test.YtaihhbiocolhcaaDoorSlisAll
import Derived.Test.YtaihhbiocolhcaaDoorAccReads
import Derived.Test.YtaihhbiocolhcaaDoorEpoReads
import Derived.Test.YtaihhbiocolhcaaDoorFitAll
namespace Go.Proofs.YtaihhbiocolhcaaDoor.Pf
open Go.ChangeShapes Go.WideShapes Go.ChangeAt Go.RowKit Go.Proofs.YtaihhbiocolhcaaDoor.Mem Go.Proofs.YtaihhbiocolhcaaDoor.Bt Go.Proofs.YtaihhbiocolhcaaDoor.Ac Go.Proofs.YtaihhbiocolhcaaDoor.Im Go.Proofs.YtaihhbiocolhcaaDoor.Tr
open Go.Proofs.YtaihhbiocolhcaaDoor.Ep (H32 zh zh_ok Has h_len one_app)
open Go.Proofs.YtaihhbiocolhcaaDoor.Sl (Kind)
set_option linter.unusedVariables false
set_option linter.unusedSimpArgs false

/-- An account that is set at a place. -/
structure Puta where
  pl : Int
  ac : Acct
structure Puta.Ok (x : Puta) : Prop where
  pl : Is64 x.pl
  ac : x.ac.Ok
def zpu : Puta := ⟨0, za⟩
theorem zpu_ok : zpu.Ok := ⟨by decide, za_ok⟩
def puc (x : Puta) : List Value := [.int .i64 x.pl] ++ acs x.ac
theorem puc_len (x : Puta) : (puc x).length = 4 := rfl
theorem puc_one (x : Puta) : OneCells (puc x) := one_app (one_int _) (acs_one _)
theorem puc_acc (x : Puta) : Has (puc x) 1 (acs x.ac) := (Has.refl (puc x)).right 1 rfl
abbrev kP : Kind Puta := ⟨puc, Puta.Ok, zpu, 4, 52, 48, 40⟩
theorem fPu : kP.Fit Tryd.prog where
  len := fun x _ => rfl
  one := puc_one
  zok := zpu_ok
  pos := by decide
  small := by decide
  bsmall := by decide
  und := by kernel_rfl
  row := ⟨.struct (Tryd.prog.fieldsOf 52), by kernel_rfl, rfl⟩
  info := by kernel_rfl
theorem z_put : Mem.Zero Tryd.prog 52 (puc zpu) := by unfold Mem.Zero; kernel_rfl
theorem sz_put (x : Puta) : Sized Tryd.prog 52 (puc x).length := ⟨.struct (Tryd.prog.fieldsOf 52), by kernel_rfl, rfl, by rw [puc_len]; kernel_rfl⟩
theorem fitPu (x : Puta) : 0 + (puc x).length ≤ (puc zpu).length := by rw [puc_len, puc_len]; omega
theorem allPu (x : Puta) : lay (puc zpu) 0 (puc x) = puc x := lay_all _ _ rfl
theorem path_und : Tryd.prog.underlying 29 = some (.array 4 23) := by kernel_rfl
theorem claim_und : Tryd.prog.underlying 60 = some (.struct (Tryd.prog.fieldsOf 60)) := by kernel_rfl
theorem put_und : Tryd.prog.underlying 52 = some (.struct (Tryd.prog.fieldsOf 52)) := by kernel_rfl
theorem claim_flds : ∃ f0 f1 : Field, Tryd.prog.fieldsOf 60 = #[f0, f1] ∧ f0.type = 27 ∧ f0.offset = 0 ∧ f1.type = 29 ∧ f1.offset = 3 :=
  ⟨(Tryd.prog.fieldsOf 60)[0]!, (Tryd.prog.fieldsOf 60)[1]!, by kernel_rfl, by kernel_rfl, by kernel_rfl, by kernel_rfl, by kernel_rfl⟩
theorem put_flds : ∃ f0 f1 : Field, Tryd.prog.fieldsOf 52 = #[f0, f1] ∧ f0.type = 3 ∧ f0.offset = 0 ∧ f1.type = 27 ∧ f1.offset = 1 :=
  ⟨(Tryd.prog.fieldsOf 52)[0]!, (Tryd.prog.fieldsOf 52)[1]!, by kernel_rfl, by kernel_rfl, by kernel_rfl, by kernel_rfl, by kernel_rfl⟩
theorem four_parts {cs : List Value} (h : cs.length = 128) : cs = chunk cs 0 32 ++ (chunk cs 32 32 ++ (chunk cs 64 32 ++ (chunk cs 96 32 ++ []))) := by
  unfold chunk
  rw [List.append_nil, List.drop_zero]
  have e3 : (cs.drop 96).take 32 = cs.drop 96 := List.take_of_length_le (by rw [List.length_drop]; omega)
  have s : ∀ n, (cs.drop n).take 32 ++ cs.drop (n + 32) = cs.drop n := fun n => by rw [← List.drop_drop]; exact List.take_append_drop 32 (cs.drop n)
  rw [e3]
  have s2 := s 64; have s1 := s 32; have s0 := s 0
  simp only [Nat.reduceAdd, Nat.zero_add, List.drop_zero] at s0 s1 s2
  rw [s2, s1, s0]
section
variable {H : Type} {enc : TypeId × Value → H} {w : World} {base : Nat} {spare : Nat → Bool} {held : Bool} {fuel : Nat} {cs : List Value} {x : DataW H × List MemPlace}
set_option maxRecDepth 100000 in
theorem path_of (h : DataW.trod enc Tryd.prog w base spare held fuel 29 cs = some x) : ∃ L : List (List Nat), cs = dgC L ∧ P4 L := by
  have h1 := came_trod 3 _ _ _ _ (by kernel_rfl) h
  unfold Mem.Came at h1
  rw [path_und] at h1
  obtain ⟨hl, hf⟩ := h1
  rw [show Tryd.prog.cellsOf 29 = 128 by kernel_rfl] at hl
  have c1 : Tryd.prog.cellsOf 23 = 32 := by kernel_rfl
  have g : ∀ i, i < 4 → ∃ b, chunk cs (i * 32) 32 = u8s b ∧ H32 b := fun i hi => by
    have := hf i hi
    rw [c1] at this
    exact Ep.c_hash this
  obtain ⟨b0, e0, k0⟩ := g 0 (by omega)
  obtain ⟨b1, e1, k1⟩ := g 1 (by omega)
  obtain ⟨b2, e2, k2⟩ := g 2 (by omega)
  obtain ⟨b3, e3, k3⟩ := g 3 (by omega)
  refine ⟨[b0, b1, b2, b3], ?_, ⟨fun y hy => ?_, rfl⟩⟩
  · have e := four_parts hl
    simp only [Nat.zero_mul, Nat.one_mul, Nat.reduceMul] at e0 e1 e2 e3
    rw [e0, e1, e2, e3] at e
    exact e
  · simp only [List.mem_cons, List.not_mem_nil, or_false] at hy
    rcases hy with rfl | rfl | rfl | rfl <;> assumption
set_option maxRecDepth 100000 in
theorem put_of (h : DataW.trod enc Tryd.prog w base spare held fuel 52 cs = some x) : ∃ a : Puta, cs = puc a ∧ a.Ok := by
  obtain ⟨f0, f1, hf, t0, o0, t1, o1⟩ := put_flds
  have hu := put_und
  rw [hf] at hu
  obtain ⟨xs, n, _, rfl, hlen, hl2, hx⟩ := DataW.trod_struct hu h
  have h0 := hx 0 f0 rfl
  have h1 := hx 1 f1 rfl
  have c0 : Tryd.prog.cellsOf 3 = 1 := by kernel_rfl
  have c1 : Tryd.prog.cellsOf 27 = 3 := by kernel_rfl
  have c3 : Tryd.prog.cellsOf 52 = 4 := by kernel_rfl
  rw [c3] at hlen
  rw [t0, o0, c0] at h0
  rw [t1, o1, c1] at h1
  obtain ⟨y0, hy0⟩ : ∃ y, xs[0]? = some y := ⟨_, List.getElem?_eq_getElem (by rw [hl2]; simp)⟩
  obtain ⟨y1, hy1⟩ : ∃ y, xs[1]? = some y := ⟨_, List.getElem?_eq_getElem (by rw [hl2]; simp)⟩
  rw [hy0] at h0
  rw [hy1] at h1
  obtain ⟨p, e0, _, w0⟩ := DataW.trod_int Tryd.underlying3 h0
  obtain ⟨a, e1, w1⟩ := acc_of h1
  obtain ⟨v0, v1, v2, v3, rfl⟩ : ∃ v0 v1 v2 v3, cs = [v0, v1, v2, v3] := by
    match cs, hlen with
    | [v0, v1, v2, v3], _ => exact ⟨v0, v1, v2, v3, rfl⟩
  simp only [List.drop_zero, List.drop_succ_cons, List.take_succ_cons, List.take_zero, List.cons.injEq, and_true] at e0 e1
  refine ⟨⟨p, a⟩, ?_, ⟨w0, w1⟩⟩
  unfold puc
  rw [e0, ← e1]
  rfl
set_option maxRecDepth 100000 in
theorem claim_of (h : DataW.trod enc Tryd.prog w base spare held fuel 60 cs = some x) : ∃ (a : Acct) (L : List (List Nat)), cs = clc a L ∧ a.Ok ∧ P4 L := by
  obtain ⟨f0, f1, hf, t0, o0, t1, o1⟩ := claim_flds
  have hu := claim_und
  rw [hf] at hu
  obtain ⟨xs, n, _, rfl, hlen, hl2, hx⟩ := DataW.trod_struct hu h
  have h0 := hx 0 f0 rfl
  have h1 := hx 1 f1 rfl
  have c0 : Tryd.prog.cellsOf 27 = 3 := by kernel_rfl
  have c1 : Tryd.prog.cellsOf 29 = 128 := by kernel_rfl
  have c3 : Tryd.prog.cellsOf 60 = 131 := by kernel_rfl
  rw [c3] at hlen
  rw [t0, o0, c0] at h0
  rw [t1, o1, c1] at h1
  obtain ⟨y0, hy0⟩ : ∃ y, xs[0]? = some y := ⟨_, List.getElem?_eq_getElem (by rw [hl2]; simp)⟩
  obtain ⟨y1, hy1⟩ : ∃ y, xs[1]? = some y := ⟨_, List.getElem?_eq_getElem (by rw [hl2]; simp)⟩
  rw [hy0] at h0
  rw [hy1] at h1
  obtain ⟨a, e0, w0⟩ := acc_of h0
  obtain ⟨L, e1, w1⟩ := path_of h1
  refine ⟨a, L, ?_, w0, w1⟩
  have e2 : (cs.drop 3).take 128 = cs.drop 3 := List.take_of_length_le (by rw [List.length_drop]; omega)
  rw [e2] at e1
  rw [List.drop_zero] at e0
  unfold clc
  rw [← e0, ← e1, List.take_append_drop]
end
/-! ### Six arguments -/
section
variable {H : Type} {enc : TypeId × Value → H} {P : Program} {w : World} {base : Nat} {spare : Nat → Bool} {held : Bool}
theorem trodAll_six {t0 t1 t2 t3 t4 t5 : TypeId} {args : Array Value} {ds : List (DataW H)} {ps : List MemPlace} (h : DataW.TrodAll enc P w base spare held [t0, t1, t2, t3, t4, t5] args.toList ds ps) :
    ∃ v0 v1 v2 v3 v4 v5 d0 d1 d2 d3 d4 d5 p0 p1 p2 p3 p4 p5, args = #[v0, v1, v2, v3, v4, v5] ∧ ds = [d0, d1, d2, d3, d4, d5] ∧ ps = p0 ++ (p1 ++ (p2 ++ (p3 ++ (p4 ++ p5)))) ∧ DataW.Trod enc P w base spare held t0 v0 d0 p0 ∧ DataW.Trod enc P w base spare held t1 v1 d1 p1 ∧ DataW.Trod enc P w base spare held t2 v2 d2 p2 ∧ DataW.Trod enc P w base spare held t3 v3 d3 p3 ∧ DataW.Trod enc P w base spare held t4 v4 d4 p4 ∧ DataW.Trod enc P w base spare held t5 v5 d5 p5 := by
  obtain ⟨v0, vs0, d0, ds0, p0, q0, ha, rfl, rfl, h0, r0⟩ := trodAll_cons h
  obtain ⟨v1, vs1, d1, ds1, p1, q1, rfl, rfl, rfl, h1, r1⟩ := trodAll_cons r0
  obtain ⟨v2, vs2, d2, ds2, p2, q2, rfl, rfl, rfl, h2, r2⟩ := trodAll_cons r1
  obtain ⟨v3, vs3, d3, ds3, p3, q3, rfl, rfl, rfl, h3, r3⟩ := trodAll_cons r2
  obtain ⟨v4, vs4, d4, ds4, p4, q4, rfl, rfl, rfl, h4, r4⟩ := trodAll_cons r3
  obtain ⟨v5, vs5, d5, ds5, p5, q5, rfl, rfl, rfl, h5, r5⟩ := trodAll_cons r4
  obtain ⟨rfl, rfl, rfl⟩ := trodAll_nil r5
  exact ⟨v0, v1, v2, v3, v4, v5, d0, d1, d2, d3, d4, d5, p0, p1, p2, p3, p4, p5, by cases args; simp_all, rfl, by simp, h0, h1, h2, h3, h4, h5⟩
theorem trodAll_mk6 {t0 t1 t2 t3 t4 t5 : TypeId} {v0 v1 v2 v3 v4 v5 : Value} {d0 d1 d2 d3 d4 d5 : DataW H} {p0 p1 p2 p3 p4 p5 : List MemPlace} (h0 : DataW.Trod enc P w base spare held t0 v0 d0 p0) (h1 : DataW.Trod enc P w base spare held t1 v1 d1 p1) (h2 : DataW.Trod enc P w base spare held t2 v2 d2 p2) (h3 : DataW.Trod enc P w base spare held t3 v3 d3 p3) (h4 : DataW.Trod enc P w base spare held t4 v4 d4 p4) (h5 : DataW.Trod enc P w base spare held t5 v5 d5 p5) :
    DataW.TrodAll enc P w base spare held [t0, t1, t2, t3, t4, t5] [v0, v1, v2, v3, v4, v5] [d0, d1, d2, d3, d4, d5] (p0 ++ (p1 ++ (p2 ++ (p3 ++ (p4 ++ p5))))) := ⟨p0, _, h0, ⟨p1, _, h1, ⟨p2, _, h2, ⟨p3, _, h3, trodAll_mk2 h4 h5, rfl⟩, rfl⟩, rfl⟩, rfl⟩
end
/-- A claim as one thing. -/
structure Cla where
  ac : Acct
  pa : List (List Nat)
structure Cla.Ok (c : Cla) : Prop where
  ac : c.ac.Ok
  pa : P4 c.pa
def ccs (c : Cla) : List Value := clc c.ac c.pa
section
variable {H : Type} {enc : TypeId × Value → H} {w : World} {base : Nat} {spare : Nat → Bool} {held : Bool} {fuel : Nat} {cs : List Value} {x : DataW H × List MemPlace}
theorem cla_of (h : DataW.trod enc Tryd.prog w base spare held fuel 60 cs = some x) : ∃ c : Cla, cs = ccs c ∧ c.Ok := by
  obtain ⟨a, L, e, ka, k4⟩ := claim_of h
  exact ⟨⟨a, L⟩, e, ⟨ka, k4⟩⟩
end
end Go.Proofs.YtaihhbiocolhcaaDoor.Pf
