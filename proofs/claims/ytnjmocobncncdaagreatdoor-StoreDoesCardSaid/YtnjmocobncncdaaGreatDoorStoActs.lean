/-
  Acts of layer 19: how they lie, how they are opened. Over this seat's translation.
-/
import Derived.Test.YtnjmocobncncdaaGreatDoorStoAwake
import Derived.Test.YtnjmocobncncdaaGreatDoorStaReads
import Derived.Test.YtnjmocobncncdaaGreatDoorBytAll
import Derived.Deep.Slices
import Derived.ProofKit
import Derived.OpenShut
import Derived.Test.YtnjmocobncncdaaGreatDoorLnkSpec
import Derived.ChangeSame
namespace Go.Proofs.YtnjmocobncncdaaGreatDoor.So
open Go.ChangeShapes Go.WideShapes Go.ChangeAt Go.RowKit Go.Proofs.YtnjmocobncncdaaGreatDoor.Mem Go.Proofs.YtnjmocobncncdaaGreatDoor.Bt
open Go.Proofs.YtnjmocobncncdaaGreatDoor.Ep (H32 zh zh_ok Has h_len one_app)
open Go.Proofs.YtnjmocobncncdaaGreatDoor.Sl (Kind)
open Go.Proofs.YtnjmocobncncdaaGreatDoor.Sa (Sta scs digS zs zs_ok scs_len scs_one)
set_option linter.unusedVariables false
set_option linter.unusedSimpArgs false

structure Sact where
  doo : Int
  s : Sta
structure Sact.Ok (x : Sact) : Prop where
  doo : (Lit.int .i64 x.doo).wf = true
  s : x.s.Ok
def zsa : Sact := ⟨0, zs⟩
theorem zsa_ok : zsa.Ok := ⟨by decide, zs_ok⟩
def sac (x : Sact) : List Value := .int .i64 x.doo :: scs x.s
theorem sac_len {x : Sact} (k : x.Ok) : (sac x).length = 364 := by unfold sac; rw [List.length_cons, scs_len k.s]
theorem sac_one (x : Sact) : OneCells (sac x) := by
  intro v hv
  rcases List.mem_cons.1 hv with rfl | hv
  · rfl
  · exact scs_one _ v hv
abbrev kA : Kind Sact := ⟨sac, Sact.Ok, zsa, 364, 46, 22, 408⟩
theorem fA : kA.Fit Tryz.prog where
  len := fun x h => sac_len h
  one := fun x => sac_one x
  zok := zsa_ok
  pos := by decide
  small := by decide
  bsmall := by decide
  und := by kernel_rfl
  row := ⟨.struct (Tryz.prog.fieldsOf 46), by kernel_rfl, rfl⟩
  info := by kernel_rfl
theorem z_sac : Mem.Zero Tryz.prog 46 (sac zsa) := by unfold Mem.Zero; kernel_rfl
theorem sz_sac {x : Sact} (k : x.Ok) : Sized Tryz.prog 46 (sac x).length := by rw [sac_len k]; exact ⟨.struct (Tryz.prog.fieldsOf 46), by kernel_rfl, rfl, by kernel_rfl⟩
theorem fitSa {x : Sact} (k : x.Ok) : 0 + (sac x).length ≤ (sac zsa).length := by rw [sac_len k, sac_len zsa_ok]; omega
theorem allSa {x : Sact} (k : x.Ok) : lay (sac zsa) 0 (sac x) = sac x := lay_all _ _ (by rw [sac_len k, sac_len zsa_ok])
theorem sac_d (x : Sact) : (sac x)[0]? = some (.int .i64 x.doo) := rfl
theorem sac_s (x : Sact) : Has (sac x) 1 (scs x.s) := (Has.refl (sac x)).right (a := [.int .i64 x.doo]) 1 rfl
theorem act_und : Tryz.prog.underlying 46 = some (.struct (Tryz.prog.fieldsOf 46)) := by kernel_rfl
theorem act_flds : ∃ f0 f1 : Field, Tryz.prog.fieldsOf 46 = #[f0, f1] ∧ f0.type = 3 ∧ f0.offset = 0 ∧ f1.type = 44 ∧ f1.offset = 1 :=
  ⟨(Tryz.prog.fieldsOf 46)[0]!, (Tryz.prog.fieldsOf 46)[1]!, by kernel_rfl, by kernel_rfl, by kernel_rfl, by kernel_rfl, by kernel_rfl⟩
section
variable {H : Type} {enc : TypeId × Value → H} {w : World} {base : Nat} {spare : Nat → Bool} {held : Bool} {fuel : Nat} {cs : List Value} {x : DataW H × List MemPlace}
theorem act_of (h : DataW.trod enc Tryz.prog w base spare held fuel 46 cs = some x) : ∃ a : Sact, cs = sac a ∧ a.Ok := by
  obtain ⟨f0, f1, hf, t0, o0, t1, o1⟩ := act_flds
  have hu := act_und
  rw [hf] at hu
  obtain ⟨y0, y1, n, rfl, hlen, h0, h1⟩ := trod_struct2 hu h
  have c0 : Tryz.prog.cellsOf 3 = 1 := by kernel_rfl
  have c1 : Tryz.prog.cellsOf 44 = 363 := by kernel_rfl
  have c3 : Tryz.prog.cellsOf 46 = 364 := by kernel_rfl
  rw [c3] at hlen
  rw [t0, o0, c0] at h0
  rw [t1, o1, c1] at h1
  obtain ⟨p, e0, _, w0⟩ := DataW.trod_int Tryz.underlying3 h0
  obtain ⟨q, e1, w1⟩ := Sa.sta_of h1
  refine ⟨⟨p, q⟩, ?_, ⟨w0, w1⟩⟩
  unfold sac
  show cs = [.int .i64 p] ++ scs q
  rw [← e1, ← e0, List.drop_zero, List.take_of_length_le (show (cs.drop 1).length ≤ 363 by rw [List.length_drop]; omega)]
  exact (List.take_append_drop 1 cs).symm
end
theorem get_ok {M : List Sta} {h : List Nat} (hM : ∀ y ∈ M, y.Ok) : ((getS M h).getD zs).Ok := by
  cases e : getS M h with
  | none => exact zs_ok
  | some y => exact hM y (get_some e).1
section
variable {P : Program} {o : Oper} {a : Act}
end
end Go.Proofs.YtnjmocobncncdaaGreatDoor.So
