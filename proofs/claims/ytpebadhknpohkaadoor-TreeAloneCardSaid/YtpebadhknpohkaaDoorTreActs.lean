/-
  Acts (of layer 15's statements) as cells, in slices, and as they come in; what they leave of a tree. Over this seat's translation.
-/
import Derived.Test.YtpebadhknpohkaaDoorTreMem
import Derived.Test.YtpebadhknpohkaaDoorSlisAll
import Derived.Test.YtpebadhknpohkaaDoorAccReads
namespace Go.Proofs.YtpebadhknpohkaaDoor.Tr
open Go.ChangeShapes Go.WideShapes Go.ChangeAt Go.RowKit Go.Proofs.YtpebadhknpohkaaDoor.Mem Go.Proofs.YtpebadhknpohkaaDoor.Bt Go.Proofs.YtpebadhknpohkaaDoor.Ac Go.Proofs.YtpebadhknpohkaaDoor.Im
open Go.Proofs.YtpebadhknpohkaaDoor.Ep (H32 zh zh_ok Has h_len)
open Go.Proofs.YtpebadhknpohkaaDoor.Sl (Kind)
set_option linter.unusedVariables false
set_option linter.unusedSimpArgs false

/-- An act: what is done, where, with what. -/
structure Acta where
  doo : Int
  pl : Int
  ac : Acct
structure Acta.Ok (x : Acta) : Prop where
  doo : Is64 x.doo
  pl : Is64 x.pl
  ac : x.ac.Ok
def zt : Acta := ⟨0, 0, za⟩
theorem zt_ok : zt.Ok := ⟨by decide, by decide, za_ok⟩
def acta (x : Acta) : List Value := [.int .i64 x.doo, .int .i64 x.pl] ++ acs x.ac
theorem acta_len (x : Acta) : (acta x).length = 5 := rfl
theorem acta_one (x : Acta) : OneCells (acta x) := Ep.one_app (fun v hv => by simp only [List.mem_cons, List.not_mem_nil, or_false] at hv; rcases hv with rfl | rfl <;> rfl) (acs_one _)
theorem acta_acc (x : Acta) : Has (acta x) 2 (acs x.ac) := by
  have := (Has.refl (acta x)).right (a := [.int .i64 x.doo, .int .i64 x.pl]) 2 rfl
  exact this
abbrev kT : Kind Acta := ⟨acta, Acta.Ok, zt, 5, 38, 22, 48⟩
theorem fT : kT.Fit Tryd.prog where
  len := fun x _ => rfl
  one := acta_one
  zok := zt_ok
  pos := by decide
  small := by decide
  bsmall := by decide
  und := by kernel_rfl
  row := ⟨.struct (Tryd.prog.fieldsOf 38), by kernel_rfl, rfl⟩
  info := by kernel_rfl
theorem z_act : Mem.Zero Tryd.prog 38 (acta zt) := by unfold Mem.Zero; kernel_rfl
theorem sz_act (x : Acta) : Sized Tryd.prog 38 (acta x).length := ⟨.struct (Tryd.prog.fieldsOf 38), by kernel_rfl, rfl, by rw [acta_len]; kernel_rfl⟩
theorem fitT (x : Acta) : 0 + (acta x).length ≤ (acta zt).length := by rw [acta_len, acta_len]; omega
theorem allT (x : Acta) : lay (acta zt) 0 (acta x) = acta x := lay_all _ _ rfl
/-- What it leaves; what it answers. -/
def doT (t : Tree) (x : Acta) : Tree := if x.doo = 0 then setR t x.pl x.ac else if x.doo = 1 then dropR t x.pl else t
def doE (x : Acta) : Nat := if x.doo = 0 then setE x.pl x.ac else 0
def doB (t : Tree) (x : Acta) : Bool := if x.doo = 0 then false else if x.doo = 1 then (atI t x.pl).isSome else false
theorem good_do {t : Tree} (h : Good t) {x : Acta} (k : x.Ok) : Good (doT t x) := by
  unfold doT
  split
  · exact good_set h _ k.ac
  · split
    · exact good_drop h _
    · exact h
/-- Where nothing is done the tree stays. -/
theorem do_other {t : Tree} (x : Acta) {j : Nat} (h : (j : Int) ≠ x.pl) : doT t x j = t j := by
  unfold doT
  split
  · unfold setR
    split
    · rename_i hs
      exact set_other (fun e => h (by have := hs.1; omega))
    · rfl
  · split
    · unfold dropR delI
      rw [if_neg h]
    · rfl
theorem do_same {t : Tree} (x : Acta) (h : ¬ ((x.doo = 0 ∧ doE x = 0) ∨ doB t x = true)) : doT t x = t := by
  unfold doT
  unfold doE doB at h
  by_cases h0 : x.doo = 0
  · rw [if_pos h0]
    rw [if_pos h0, if_pos h0] at h
    unfold setR
    unfold setE at h
    split
    · rename_i hs
      rw [if_pos hs] at h
      exact absurd (Or.inl ⟨h0, rfl⟩) h
    · rfl
  · rw [if_neg h0]
    rw [if_neg h0, if_neg h0] at h
    by_cases h1 : x.doo = 1
    · rw [if_pos h1]
      rw [if_pos h1] at h
      refine drop_none ?_
      cases e : atI t x.pl with
      | none => rfl
      | some a => rw [e] at h; exact absurd (Or.inr rfl) h
    · rw [if_neg h1]
theorem act_und : Tryd.prog.underlying 38 = some (.struct (Tryd.prog.fieldsOf 38)) := by kernel_rfl
theorem act_flds : ∃ f0 f1 f2 : Field, Tryd.prog.fieldsOf 38 = #[f0, f1, f2] ∧ f0.type = 3 ∧ f0.offset = 0 ∧ f1.type = 3 ∧ f1.offset = 1 ∧ f2.type = 36 ∧ f2.offset = 2 :=
  ⟨(Tryd.prog.fieldsOf 38)[0]!, (Tryd.prog.fieldsOf 38)[1]!, (Tryd.prog.fieldsOf 38)[2]!, by kernel_rfl, by kernel_rfl, by kernel_rfl, by kernel_rfl, by kernel_rfl, by kernel_rfl, by kernel_rfl⟩
section
variable {H : Type} {enc : TypeId × Value → H} {w : World} {base : Nat} {spare : Nat → Bool} {held : Bool} {fuel : Nat} {cs : List Value} {x : DataW H × List MemPlace}
theorem act_of (h : DataW.trod enc Tryd.prog w base spare held fuel 38 cs = some x) : ∃ a : Acta, cs = acta a ∧ a.Ok := by
  obtain ⟨f0, f1, f2, hf, t0, o0, t1, o1, t2, o2⟩ := act_flds
  have hu := act_und
  rw [hf] at hu
  obtain ⟨y0, y1, y2, n, rfl, hlen, h0, h1, h2⟩ := Deep.trod_struct3 hu h
  have c0 : Tryd.prog.cellsOf 3 = 1 := by kernel_rfl
  have c2 : Tryd.prog.cellsOf 36 = 3 := by kernel_rfl
  have c3 : Tryd.prog.cellsOf 38 = 5 := by kernel_rfl
  rw [c3] at hlen
  rw [t0, o0, c0] at h0
  rw [t1, o1, c0] at h1
  rw [t2, o2, c2] at h2
  obtain ⟨p, e0, _, w0⟩ := DataW.trod_int Tryd.underlying3 h0
  obtain ⟨q, e1, _, w1⟩ := DataW.trod_int Tryd.underlying3 h1
  obtain ⟨a, e2, w2⟩ := acc_of h2
  obtain ⟨v0, v1, v2, v3, v4, rfl⟩ : ∃ v0 v1 v2 v3 v4, cs = [v0, v1, v2, v3, v4] := by
    match cs, hlen with
    | [v0, v1, v2, v3, v4], _ => exact ⟨v0, v1, v2, v3, v4, rfl⟩
  simp only [List.drop_zero, List.drop_succ_cons, List.take_succ_cons, List.take_zero, List.cons.injEq, and_true] at e0 e1 e2
  refine ⟨⟨p, q, a⟩, ?_, ⟨w0, w1, w2⟩⟩
  unfold acta
  rw [e0, e1, ← e2]
  rfl
end
end Go.Proofs.YtpebadhknpohkaaDoor.Tr
