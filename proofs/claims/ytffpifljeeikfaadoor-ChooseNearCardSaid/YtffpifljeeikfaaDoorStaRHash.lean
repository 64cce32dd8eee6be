/-
  The contracts of the document's One of layer 3 and Hash of layer 9, over this seat's translation.
-/
import Derived.Test.YtffpifljeeikfaaDoorStaRBytes
import Derived.Test.YtffpifljeeikfaaDoorWireRefAll
import Derived.Test.YtffpifljeeikfaaDoorTagAll
import Derived.Test.YtffpifljeeikfaaDoorTagOne
namespace Go.Proofs.YtffpifljeeikfaaDoor.Sa
open Go.ChangeShapes Go.WideShapes Go.ChangeAt Go.RowKit Go.Proofs.YtffpifljeeikfaaDoor.Mem Go.Proofs.YtffpifljeeikfaaDoor.Bt Go.Proofs.YtffpifljeeikfaaDoor.Wi Go.Proofs.YtffpifljeeikfaaDoor.Tg Go.Proofs.YtffpifljeeikfaaDoor.Sha Go.Proofs.YtffpifljeeikfaaDoor.Rg
open Go.Proofs.YtffpifljeeikfaaDoor.Ep (H32 zh zh_ok Has szH zH fitH allH)
set_option linter.unusedVariables false
set_option linter.unusedSimpArgs false

theorem zA : Mem.Zero Tryd.prog 22 (u8s zh) := by unfold Mem.Zero; kernel_rfl
set_option maxRecDepth 100000 in
theorem szA {x : List Nat} (h : H32 x) : Sized Tryd.prog 22 (u8s x).length := by rw [u8s_length, h.len]; exact sz_arr
theorem tagD_ok (n : ByteArray) (l : List (List Nat)) : H32 (tagD n l) := ⟨tagD_len _ _, Ep.tagD_lt _ _⟩
end Go.Proofs.YtffpifljeeikfaaDoor.Sa
