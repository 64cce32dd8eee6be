/-
  States in slices; a state's block; who follows whom, and how many follow one another, over numbers and lists. Over this seat's translation.
-/
import Derived.Test.YtnjmocobncncdaaDoorSlisAll
import Derived.Test.YtnjmocobncncdaaDoorGroAll
import Derived.Test.YtnjmocobncncdaaDoorStaSpec
import Derived.Test.YtnjmocobncncdaaDoorStaMade
namespace Go.Proofs.YtnjmocobncncdaaDoor.Lk
open Go.ChangeShapes Go.WideShapes Go.ChangeAt Go.RowKit Go.Proofs.YtnjmocobncncdaaDoor.Mem Go.Proofs.YtnjmocobncncdaaDoor.Bt Go.Proofs.YtnjmocobncncdaaDoor.Rg Go.Proofs.YtnjmocobncncdaaDoor.Wn Go.Proofs.YtnjmocobncncdaaDoor.Sa Go.Proofs.YtnjmocobncncdaaDoor.Gr Go.Proofs.YtnjmocobncncdaaDoor.Sl
open Go.Proofs.YtnjmocobncncdaaDoor.Ep (H32 Dat Blk zh zh_ok num32 zd zd_ok Has h_len one_app one_num szH zH fitH allH)
set_option linter.unusedVariables false
set_option linter.unusedSimpArgs false

abbrev kS : Kind Sta := ⟨scs, Sta.Ok, zs, 363, 41, 58, 396⟩
theorem fS : kS.Fit Tryd.prog where
  len := fun _ k => scs_len k
  one := scs_one
  zok := zs_ok
  pos := (by decide : 0 < 363)
  small := (by decide : 363 ≤ 4096)
  bsmall := (by decide : 396 ≤ 65536)
  und := by kernel_rfl
  row := ⟨.struct (Tryd.prog.fieldsOf 41), by kernel_rfl, rfl⟩
  info := by kernel_rfl
section
variable {o : Oper} {a : Act}
end
theorem same_iff {s t : Sta} (k : s.Ok) (j : t.Ok) {b : Bool} (h : b = true ↔ s = t) : b = true ↔ scs s = scs t := h.trans ⟨congrArg scs, cells_inj k j⟩
end Go.Proofs.YtnjmocobncncdaaDoor.Lk
