/-
  States in slices; a state's block; who follows whom, and how many follow one another, over numbers and lists. Over this seat's translation.
-/
import Derived.Test.YtnjmocobncncdaaGreatDoorSlisAll
import Derived.Test.YtnjmocobncncdaaGreatDoorGroAll
import Derived.Test.YtnjmocobncncdaaGreatDoorStaSpec
import Derived.Test.YtnjmocobncncdaaGreatDoorStaMade
namespace Go.Proofs.YtnjmocobncncdaaGreatDoor.Lk
open Go.ChangeShapes Go.WideShapes Go.ChangeAt Go.RowKit Go.Proofs.YtnjmocobncncdaaGreatDoor.Mem Go.Proofs.YtnjmocobncncdaaGreatDoor.Bt Go.Proofs.YtnjmocobncncdaaGreatDoor.Rg Go.Proofs.YtnjmocobncncdaaGreatDoor.Wn Go.Proofs.YtnjmocobncncdaaGreatDoor.Sa Go.Proofs.YtnjmocobncncdaaGreatDoor.Gr Go.Proofs.YtnjmocobncncdaaGreatDoor.Sl
open Go.Proofs.YtnjmocobncncdaaGreatDoor.Ep (H32 Dat Blk zh zh_ok num32 zd zd_ok Has h_len one_app one_num szH zH fitH allH)
set_option linter.unusedVariables false
set_option linter.unusedSimpArgs false

abbrev kR : Kind Sta := ⟨scs, Sta.Ok, zs, 363, 55, 65, 396⟩
theorem fR : kR.Fit Tryz.prog where
  len := fun _ k => scs_len k
  one := scs_one
  zok := zs_ok
  pos := (by decide : 0 < 363)
  small := (by decide : 363 ≤ 4096)
  bsmall := (by decide : 396 ≤ 65536)
  und := by kernel_rfl
  row := ⟨.struct (Tryz.prog.fieldsOf 55), by kernel_rfl, rfl⟩
  info := by kernel_rfl
section
variable {o : Oper} {a : Act}
set_option maxRecDepth 100000 in
theorem run_op_neqRS {s t : Sta} (k : s.Ok) (j : t.Ok) (y z : Operand) (t' : TypeId) (ho : o.op = .binOp .neq 55 y z t') (hy : a.eval y = .agg (scs s).toArray) (hz : a.eval z = .agg (scs t).toArray) (b : Bool) (hb : b = true ↔ scs s = scs t) (w : World) : (execOp a.eval o).run Tryz.prog w = .ok (.value (.bool (!b))) w :=
  run_op_neqF 55 y z t' ho 5 (by omega) (.struct (Tryz.prog.fieldsOf 55)) (by kernel_rfl) rfl (by kernel_rfl) (scs s) (scs t) hy hz (fit_rsta k 0) (fit_rsta j 0) b hb w
end
end Go.Proofs.YtnjmocobncncdaaGreatDoor.Lk
