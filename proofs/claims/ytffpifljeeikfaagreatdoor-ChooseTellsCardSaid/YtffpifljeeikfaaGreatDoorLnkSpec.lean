/-
  States in slices; a state's block; who follows whom, and how many follow one another, over numbers and lists. Over this seat's translation.
-/
import Derived.Test.YtffpifljeeikfaaGreatDoorSlisAll
import Derived.Test.YtffpifljeeikfaaGreatDoorGroAll
import Derived.Test.YtffpifljeeikfaaGreatDoorStaSpec
import Derived.Test.YtffpifljeeikfaaGreatDoorStaMade
namespace Go.Proofs.YtffpifljeeikfaaGreatDoor.Lk
open Go.ChangeShapes Go.WideShapes Go.ChangeAt Go.RowKit Go.Proofs.YtffpifljeeikfaaGreatDoor.Mem Go.Proofs.YtffpifljeeikfaaGreatDoor.Bt Go.Proofs.YtffpifljeeikfaaGreatDoor.Rg Go.Proofs.YtffpifljeeikfaaGreatDoor.Wn Go.Proofs.YtffpifljeeikfaaGreatDoor.Sa Go.Proofs.YtffpifljeeikfaaGreatDoor.Gr Go.Proofs.YtffpifljeeikfaaGreatDoor.Sl
open Go.Proofs.YtffpifljeeikfaaGreatDoor.Ep (H32 Dat Blk zh zh_ok num32 zd zd_ok Has h_len one_app one_num szH zH fitH allH)
set_option linter.unusedVariables false
set_option linter.unusedSimpArgs false

/-- The block that has a state's own Slot, Ledger and Draw. -/
def gbOf (c : Sta) : Gb := ⟨c.slot, c.led, c.draw⟩
theorem gbOf_ok {c : Sta} (k : c.Ok) : (gbOf c).Ok := ⟨k.slot, k.led, k.draw⟩
open Classical in
/-- Whether a state follows a parent: the error. -/
noncomputable def folE (p c : Sta) : Int := if chE p (gbOf c) = 0 then (if chS p (gbOf c) = c then 0 else 7) else chE p (gbOf c)
theorem folE_bad {p c : Sta} (h : chE p (gbOf c) ≠ 0) : folE p c = chE p (gbOf c) := if_neg h
theorem folE_yes {p c : Sta} (h : chE p (gbOf c) = 0) (e : chS p (gbOf c) = c) : folE p c = 0 := by unfold folE; rw [if_pos h, if_pos e]
theorem folE_no {p c : Sta} (h : chE p (gbOf c) = 0) (e : chS p (gbOf c) ≠ c) : folE p c = 7 := by unfold folE; rw [if_pos h, if_neg e]
theorem folE_zero {p c : Sta} : folE p c = 0 ↔ chE p (gbOf c) = 0 ∧ chS p (gbOf c) = c := by
  constructor
  · intro h
    by_cases h1 : chE p (gbOf c) = 0
    · refine ⟨h1, ?_⟩
      by_cases h2 : chS p (gbOf c) = c
      · exact h2
      · rw [folE_no h1 h2] at h; cases h
    · rw [folE_bad h1] at h; exact absurd h h1
  · rintro ⟨h1, h2⟩
    exact folE_yes h1 h2
/-- A child of a parent that is right follows it, and is right. -/
theorem fol_right {p c : Sta} (r : SRt p) (h : folE p c = 0) : SRt c := by
  obtain ⟨h1, h2⟩ := folE_zero.1 h
  rw [← h2]
  exact chS_right r h1
/-- How many follow one another behind a state, and why no more. -/
noncomputable def lineN : Sta → Nat → List Sta → Nat × Int
  | _, k, [] => (k, 0)
  | t, k, c :: r => if folE t c = 0 then lineN c (k + 1) r else (k, folE t c)
noncomputable def lineF : List Sta → Nat × Int
  | [] => (0, 0)
  | t :: r => lineN t 1 r
theorem lineN_nil (t : Sta) (k : Nat) : lineN t k [] = (k, 0) := rfl
theorem lineN_cons (t c : Sta) (k : Nat) (r : List Sta) : lineN t k (c :: r) = if folE t c = 0 then lineN c (k + 1) r else (k, folE t c) := rfl
theorem line_go {l : List Sta} {t c : Sta} {k : Nat} (hc : l[k]? = some c) (h : folE t c = 0) : lineN t k (l.drop k) = lineN c (k + 1) (l.drop (k + 1)) := by
  obtain ⟨hl, e⟩ := List.getElem?_eq_some_iff.1 hc
  rw [List.drop_eq_getElem_cons hl, e, lineN_cons, if_pos h]
theorem line_stop {l : List Sta} {t c : Sta} {k : Nat} (hc : l[k]? = some c) (h : folE t c ≠ 0) : lineN t k (l.drop k) = (k, folE t c) := by
  obtain ⟨hl, e⟩ := List.getElem?_eq_some_iff.1 hc
  rw [List.drop_eq_getElem_cons hl, e, lineN_cons, if_neg h]
theorem line_end {l : List Sta} {t : Sta} : lineN t l.length (l.drop l.length) = (l.length, 0) := by rw [List.drop_length]; rfl
/-- What holds at place k of a line: the state ahead, and what is told of the rest. -/
def LnAt (l : List Sta) (q : Nat × Int) (j : Nat) : Prop := (j + 1 < l.length → ∃ t, l[j]? = some t ∧ SRt t ∧ lineN t (j + 1) (l.drop (j + 1)) = q) ∧ (¬ j + 1 < l.length → (l.length, (0 : Int)) = q)
theorem lnAt_start {l : List Sta} (hr : ∀ t r, l = t :: r → SRt t) : LnAt l (lineF l) 0 := by
  constructor
  · intro h
    cases l with
    | nil => simp at h
    | cons t r => exact ⟨t, rfl, hr t r rfl, rfl⟩
  · intro h
    cases l with
    | nil => rfl
    | cons t r =>
      obtain rfl : r = [] := List.eq_nil_of_length_eq_zero (by rw [List.length_cons] at h; omega)
      rfl
theorem lnAt_round {l : List Sta} {q : Nat × Int} {j : Nat} (h : LnAt l q j) (hj : j + 1 < l.length) : ∃ t c, l[j]? = some t ∧ l[j + 1]? = some c ∧ SRt t ∧ (folE t c = 0 → LnAt l q (j + 1)) ∧ (folE t c ≠ 0 → (j + 1, folE t c) = q) := by
  obtain ⟨t, ht, hr, hq⟩ := h.1 hj
  have hc : l[j + 1]? = some l[j + 1] := List.getElem?_eq_getElem hj
  refine ⟨t, l[j + 1], ht, hc, hr, fun hz => ⟨fun _ => ⟨_, hc, fol_right hr hz, ?_⟩, fun hn => ?_⟩, fun hz => ?_⟩
  · rw [← line_go hc hz]; exact hq
  · rw [← hq, line_go hc hz, show j + 1 + 1 = l.length by omega, line_end]
  · rw [← line_stop hc hz]; exact hq
theorem run_op_sub64 {P : Program} {o : Oper} {a : Act} (t t' : TypeId) (x y : Operand) (ho : o.op = .binOp .sub t x y t') (m n r : Int) (hx : a.eval x = .int .i64 m) (hy : a.eval y = .int .i64 n) (hr : IntKind.i64.wrap (m - n) = r) (w : World) :
    (execOp a.eval o).run P w = .ok (.value (.int .i64 r)) w := by
  subst hr
  unfold execOp
  simp [ho, hx, hy, eqGuard, binOp, Op.intArith]
theorem run_op_add64 {P : Program} {o : Oper} {a : Act} (t t' : TypeId) (x y : Operand) (ho : o.op = .binOp .add t x y t') (m n r : Int) (hx : a.eval x = .int .i64 m) (hy : a.eval y = .int .i64 n) (hr : IntKind.i64.wrap (m + n) = r) (w : World) :
    (execOp a.eval o).run P w = .ok (.value (.int .i64 r)) w := by
  subst hr
  unfold execOp
  simp [ho, hx, hy, eqGuard, binOp, Op.intArith]
theorem run_op_len {P : Program} {o : Oper} {a : Act} (x : Operand) (t e : TypeId) (ho : o.op = .call { callee := .builtin .len, args := #[x], argTypes := #[t] }) (hu : P.underlying t = some (.slice e)) (p : Option Addr) (n c : Nat) (hx : a.eval x = .slice p n c) (w : World) :
    (execOp a.eval o).run P w = .ok (.value (.int .i64 (n : Int))) w := by
  unfold execOp
  simp [ho, resolve, invoke, builtin, hx, Builtin.len_, run_underlying hu]
  rfl
/-! ### States in slices. -/
abbrev kS : Kind Sta := ⟨scs, Sta.Ok, zs, 363, 35, 36, 396⟩
theorem fS : kS.Fit Tryz.prog where
  len := fun _ k => scs_len k
  one := scs_one
  zok := zs_ok
  pos := (by decide : 0 < 363)
  small := (by decide : 363 ≤ 4096)
  bsmall := (by decide : 396 ≤ 65536)
  und := by kernel_rfl
  row := ⟨.struct (Tryz.prog.fieldsOf 35), by kernel_rfl, rfl⟩
  info := by kernel_rfl
abbrev kR : Kind Sta := ⟨scs, Sta.Ok, zs, 363, 49, 51, 396⟩
theorem fR : kR.Fit Tryz.prog where
  len := fun _ k => scs_len k
  one := scs_one
  zok := zs_ok
  pos := (by decide : 0 < 363)
  small := (by decide : 363 ≤ 4096)
  bsmall := (by decide : 396 ≤ 65536)
  und := by kernel_rfl
  row := ⟨.struct (Tryz.prog.fieldsOf 49), by kernel_rfl, rfl⟩
  info := by kernel_rfl
/-! ### Blocks, written out. -/
theorem built_gball {c : Sta} (k : c.Ok) : Tryz.prog.built 64 [(0, num32 c.slot), (1, .agg (u8s c.led).toArray), (2, .agg (u8s c.draw).toArray)] = some (gcs (gbOf c)).toArray := by
  rw [shape_gb, fg_slot zg_ok, fg_led (b := ⟨c.slot, zg.led, zg.draw⟩) ⟨k.slot, zh_ok, zh_ok⟩ k.led, fg_draw (b := ⟨c.slot, c.led, zg.draw⟩) ⟨k.slot, k.led, zh_ok⟩ k.draw, fill_done]; rfl
section
variable {o : Oper} {a : Act}
set_option maxRecDepth 100000 in
theorem run_op_neqRS {s t : Sta} (k : s.Ok) (j : t.Ok) (y z : Operand) (t' : TypeId) (ho : o.op = .binOp .neq 49 y z t') (hy : a.eval y = .agg (scs s).toArray) (hz : a.eval z = .agg (scs t).toArray) (b : Bool) (hb : b = true ↔ scs s = scs t) (w : World) : (execOp a.eval o).run Tryz.prog w = .ok (.value (.bool (!b))) w :=
  run_op_neqF 49 y z t' ho 5 (by omega) (.struct (Tryz.prog.fieldsOf 49)) (by kernel_rfl) rfl (by kernel_rfl) (scs s) (scs t) hy hz (fit_rsta k 0) (fit_rsta j 0) b hb w
end
theorem same_iff {s t : Sta} (k : s.Ok) (j : t.Ok) {b : Bool} (h : b = true ↔ s = t) : b = true ↔ scs s = scs t := h.trans ⟨congrArg scs, cells_inj k j⟩
end Go.Proofs.YtffpifljeeikfaaGreatDoor.Lk
