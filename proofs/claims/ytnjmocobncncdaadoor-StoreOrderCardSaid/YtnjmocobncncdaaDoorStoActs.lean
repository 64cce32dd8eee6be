/-
  Acts of layer 19: how they lie, how they are opened. Over this seat's translation.
-/
import Derived.Test.YtnjmocobncncdaaDoorStoAwake
import Derived.Test.YtnjmocobncncdaaDoorStaReads
import Derived.Test.YtnjmocobncncdaaDoorBytAll
import Derived.Deep.Slices
import Derived.ProofKit
import Derived.OpenShut
import Derived.Test.YtnjmocobncncdaaDoorLnkSpec
import Derived.ChangeSame
namespace Go.Proofs.YtnjmocobncncdaaDoor.So
open Go.ChangeShapes Go.WideShapes Go.ChangeAt Go.RowKit Go.Proofs.YtnjmocobncncdaaDoor.Mem Go.Proofs.YtnjmocobncncdaaDoor.Bt
open Go.Proofs.YtnjmocobncncdaaDoor.Ep (H32 zh zh_ok Has h_len one_app)
open Go.Proofs.YtnjmocobncncdaaDoor.Sl (Kind)
open Go.Proofs.YtnjmocobncncdaaDoor.Sa (Sta scs digS zs zs_ok scs_len scs_one)
set_option linter.unusedVariables false
set_option linter.unusedSimpArgs false

structure Sact where
  doo : Int
  s : Sta
structure Sact.Ok (x : Sact) : Prop where
  doo : (Lit.int .i64 x.doo).wf = true
  s : x.s.Ok
def zsa : Sact := ⟨0, zs⟩
theorem zsa_ok : zsa.Ok := ⟨by decide, zs_ok⟩
def sac (x : Sact) : List Value := .int .i64 x.doo :: scs x.s
theorem sac_len {x : Sact} (k : x.Ok) : (sac x).length = 364 := by unfold sac; rw [List.length_cons, scs_len k.s]
theorem sac_one (x : Sact) : OneCells (sac x) := by
  intro v hv
  rcases List.mem_cons.1 hv with rfl | hv
  · rfl
  · exact scs_one _ v hv
abbrev kA : Kind Sact := ⟨sac, Sact.Ok, zsa, 364, 43, 22, 408⟩
theorem fA : kA.Fit Tryd.prog where
  len := fun x h => sac_len h
  one := fun x => sac_one x
  zok := zsa_ok
  pos := by decide
  small := by decide
  bsmall := by decide
  und := by kernel_rfl
  row := ⟨.struct (Tryd.prog.fieldsOf 43), by kernel_rfl, rfl⟩
  info := by kernel_rfl
theorem z_sac : Mem.Zero Tryd.prog 43 (sac zsa) := by unfold Mem.Zero; kernel_rfl
theorem sz_sac {x : Sact} (k : x.Ok) : Sized Tryd.prog 43 (sac x).length := by rw [sac_len k]; exact ⟨.struct (Tryd.prog.fieldsOf 43), by kernel_rfl, rfl, by kernel_rfl⟩
theorem fitSa {x : Sact} (k : x.Ok) : 0 + (sac x).length ≤ (sac zsa).length := by rw [sac_len k, sac_len zsa_ok]; omega
theorem allSa {x : Sact} (k : x.Ok) : lay (sac zsa) 0 (sac x) = sac x := lay_all _ _ (by rw [sac_len k, sac_len zsa_ok])
theorem sac_d (x : Sact) : (sac x)[0]? = some (.int .i64 x.doo) := rfl
theorem sac_s (x : Sact) : Has (sac x) 1 (scs x.s) := (Has.refl (sac x)).right (a := [.int .i64 x.doo]) 1 rfl
theorem act_und : Tryd.prog.underlying 43 = some (.struct (Tryd.prog.fieldsOf 43)) := by kernel_rfl
theorem act_flds : ∃ f0 f1 : Field, Tryd.prog.fieldsOf 43 = #[f0, f1] ∧ f0.type = 3 ∧ f0.offset = 0 ∧ f1.type = 41 ∧ f1.offset = 1 :=
  ⟨(Tryd.prog.fieldsOf 43)[0]!, (Tryd.prog.fieldsOf 43)[1]!, by kernel_rfl, by kernel_rfl, by kernel_rfl, by kernel_rfl, by kernel_rfl⟩
section
variable {H : Type} {enc : TypeId × Value → H} {w : World} {base : Nat} {spare : Nat → Bool} {held : Bool} {fuel : Nat} {cs : List Value} {x : DataW H × List MemPlace}
theorem act_of (h : DataW.trod enc Tryd.prog w base spare held fuel 43 cs = some x) : ∃ a : Sact, cs = sac a ∧ a.Ok := by
  obtain ⟨f0, f1, hf, t0, o0, t1, o1⟩ := act_flds
  have hu := act_und
  rw [hf] at hu
  obtain ⟨y0, y1, n, rfl, hlen, h0, h1⟩ := trod_struct2 hu h
  have c0 : Tryd.prog.cellsOf 3 = 1 := by kernel_rfl
  have c1 : Tryd.prog.cellsOf 41 = 363 := by kernel_rfl
  have c3 : Tryd.prog.cellsOf 43 = 364 := by kernel_rfl
  rw [c3] at hlen
  rw [t0, o0, c0] at h0
  rw [t1, o1, c1] at h1
  obtain ⟨p, e0, _, w0⟩ := DataW.trod_int Tryd.underlying3 h0
  obtain ⟨q, e1, w1⟩ := Sa.sta_of h1
  refine ⟨⟨p, q⟩, ?_, ⟨w0, w1⟩⟩
  unfold sac
  show cs = [.int .i64 p] ++ scs q
  rw [← e1, ← e0, List.drop_zero, List.take_of_length_le (show (cs.drop 1).length ≤ 363 by rw [List.length_drop]; omega)]
  exact (List.take_append_drop 1 cs).symm
end
theorem keep_facts {r : Nat} {pin : Option (List Nat)} {L : List Sta} (k : SOk vK digS r pin L) {x : Sta} (kx : x.Ok) (kL : ∀ y ∈ L, y.Ok) :
    hasB (digS x) (putL r (some (digS x)) x L).1 = true ∧ ∀ g, (putL r (some (digS x)) x L).2 = some g → digS g ≠ digS x := by
  unfold putL
  by_cases h : hasB (digS x) L = true
  · rw [if_pos h]
    exact ⟨h, fun g e => by cases e⟩
  · rw [if_neg h]
    have hx : has digS (digS x) (ins vK x L) := ⟨x, ins_mem.2 (.inl rfl), rfl⟩
    have kl := laid_pin (laid_new k (fun q => h (has_true.2 q)) kx kL) hx
    have hg : ∀ g, (less digS r (some (digS x)) (ins vK x L)).2 = some g → digS g ≠ digS x := fun g e q => (less_gone kl e).2.2 (by rw [q])
    exact ⟨has_true.2 ((less_stay kl hx).2 fun ⟨g, e, q⟩ => hg g e q), hg⟩
theorem put_facts {r : Nat} {pin : Option (List Nat)} {L : List Sta} (k : SOk vK digS r pin L) {x : Sta} (kx : x.Ok) (kL : ∀ y ∈ L, y.Ok) :
    ((putL r pin x L).2 = none → hasB (digS x) (putL r pin x L).1 = true) ∧
    ∀ g, (putL r pin x L).2 = some g → hasB (digS g) (putL r pin x L).1 = false ∧ (putL r pin x L).1 ≠ [] ∧ hasB (digS x) (putL r pin x L).1 = !decide (digS g = digS x) := by
  unfold putL
  by_cases h : hasB (digS x) L = true
  · rw [if_pos h]
    exact ⟨fun _ => h, fun g e => by cases e⟩
  · rw [if_neg h]
    have hx : has digS (digS x) (ins vK x L) := ⟨x, ins_mem.2 (.inl rfl), rfl⟩
    have kl := laid_new k (fun q => h (has_true.2 q)) kx kL
    refine ⟨fun e => has_true.2 ((less_stay kl hx).2 fun ⟨g, q, _⟩ => by rw [e] at q; cases q), fun g e => ?_⟩
    have hs := less_stay kl hx
    refine ⟨Bool.eq_false_iff.2 fun q => (less_gone kl e).1 (has_true.1 q), fun q => ?_, ?_⟩
    · by_cases hl : (ins vK x L).length ≤ r
      · rw [less_room hl] at e; cases e
      · have h2 := k.two
        rw [less_full kl hl] at q
        have := congrArg List.length q
        change ((ins vK x L).eraseIdx (out digS pin (ins vK x L))).length = 0 at this
        rw [List.length_eraseIdx, if_pos (out_lt kl hl)] at this
        omega
    · by_cases c : digS g = digS x
      · rw [decide_eq_true c]
        exact Bool.eq_false_iff.2 fun q => (hs.1 (has_true.1 q)) ⟨g, e, c⟩
      · rw [decide_eq_false c]
        exact has_true.2 (hs.2 fun ⟨y, q, z⟩ => by rw [e] at q; cases q; exact c z)
theorem last_not {M : List Sta} {h : List Nat} (hn : hasB h M = false) {i : Nat} {x : Sta} (hx : M[i]? = some x) : decide (digS x = h) = false :=
  decide_eq_false fun e => by have := has_true.2 ⟨x, List.mem_of_getElem? hx, e⟩; rw [hn] at this; cases this
theorem kcmp_step {M : List Sta} (h : Rise vK M) {i : Nat} {x y : Sta} (hx : M[i]? = some x) (hy : M[i + 1]? = some y) : Od.kcmp (Od.keyN x) (Od.keyN y) < 0 := by
  obtain ⟨h1, rfl⟩ := List.getElem?_eq_some_iff.1 hx
  obtain ⟨h2, rfl⟩ := List.getElem?_eq_some_iff.1 hy
  exact Od.cmpN_neg.2 (List.pairwise_iff_getElem.1 h i (i + 1) h1 h2 (Nat.lt_succ_self i))
theorem get_ok {M : List Sta} {h : List Nat} (hM : ∀ y ∈ M, y.Ok) : ((getS M h).getD zs).Ok := by
  cases e : getS M h with
  | none => exact zs_ok
  | some y => exact hM y (get_some e).1
theorem pin_kept {r : Nat} {pin : Option (List Nat)} {L : List Sta} (k : SOk vK digS r pin L) (h : pin.isSome = true) : hasB (pin.getD zh) L = true := by
  cases pin with
  | none => cases h
  | some p => exact has_true.2 (k.pin p rfl)
theorem key_hash' {w : World} {g o : Nat} {x : Od.Ky} (kx : x.Ok) (h : w.rangeAt g o (Od.kcs x)) : w.rangeAt g (o + 33) (u8s x.hash) := fun j v hj => by
  obtain ⟨p, r, hc, hp⟩ := (Od.k33 kx).ex
  have e : (Od.kcs x)[33 + j]? = some v := by
    rw [hc, ← hp, List.getElem?_append_right (by omega), Nat.add_sub_cancel_left, List.getElem?_append_left (List.getElem?_eq_some_iff.1 hj).1]
    exact hj
  have := h (33 + j) v e
  rw [← Nat.add_assoc] at this
  exact this
theorem range_u8' {w w' : World} {g o : Nat} {x : List Nat} (h : w.rangeAt g o (u8s x)) (k : H32 x) (hb : Below w.heap.size w w') : w'.rangeAt g o (u8s x) :=
  range_block h (hb.block g (range_lt h (fun e => by have := congrArg List.length e; rw [h_len k] at this; cases this)))
theorem range_k' {w w' : World} {g o : Nat} {x : Od.Ky} (h : w.rangeAt g o (Od.kcs x)) (hb : Below w.heap.size w w') : w'.rangeAt g o (Od.kcs x) :=
  range_block h (hb.block g (range_lt h (fun e => by cases e)))
section
variable {P : Program} {o : Oper} {a : Act}
theorem run_op_subW (t t' : TypeId) (x y : Operand) (ho : o.op = .binOp .sub t x y t') (m n : Int) (hx : a.eval x = .int .i64 m) (hy : a.eval y = .int .i64 n) (z : Int) (hz : IntKind.i64.wrap (m - n) = z) (w : World) : (execOp a.eval o).run P w = .ok (.value (.int .i64 z)) w := by
  subst hz
  unfold execOp
  simp [ho, hx, hy, eqGuard, binOp, Op.intArith]
theorem run_op_eqlBB' (x y : Operand) (t' : TypeId) (ho : o.op = .binOp .eql 4 x y t') (p q : Bool) (hx : a.eval x = .bool p) (hy : a.eval y = .bool q) (r : Bool) (hr : (p == q) = r) (w : World) : (execOp a.eval o).run Tryd.prog w = .ok (.value (.bool r)) w := by
  subst hr
  unfold execOp
  cases p <;> cases q <;> simp only [ho, hx, hy] <;> kernel_rfl
end
end Go.Proofs.YtnjmocobncncdaaDoor.So
