/-
  What the rows' condition gives where the project's table alone is listed. Over this seat's translation.
-/
import Derived.Test.YtnjmocobncncdaaDoorTab
namespace Go.Proofs.YtnjmocobncncdaaDoor.Sha
open Go.ChangeShapes Go.WideShapes Go.ChangeAt Go.WideMaps Go.WideElems Go.RowKit Go.Proofs.YtnjmocobncncdaaDoor.Num Go.Proofs.YtnjmocobncncdaaDoor.Mem Go.Proofs.YtnjmocobncncdaaDoor.Bt
/-- The project's table, where it alone is listed. -/
theorem of_laidS {W : World} (h : laidMetH Tryd.prog [("almagest/sha.k", Rows.laid_almagest_sha_k)] W) : W.rangeAt 0 0 (u32s ks) := by
  rw [MakeChecks.laidMetH_plain _ _ _ (by kernel_rfl)] at h
  obtain ⟨ps, ⟨g1, t1, cs1, f1, p1, q1, hg1, ht1, hv1, hd1, _, _⟩, _, _⟩ := h
  obtain rfl := Option.some.inj (gSha.symm.trans hg1)
  obtain rfl := Option.some.inj (tSha.symm.trans ht1)
  rw [laidSha] at hd1
  exact range_var hg1 hv1 (tab_read hd1)
end Go.Proofs.YtnjmocobncncdaaDoor.Sha
