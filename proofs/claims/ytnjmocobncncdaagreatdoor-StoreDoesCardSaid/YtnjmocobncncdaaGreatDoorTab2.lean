/-
  What the rows' condition gives layer 3's walks: the two tables hold the chapter's sixty-four numbers.
-/
import Derived.Test.YtnjmocobncncdaaGreatDoorTab
namespace Go.Proofs.YtnjmocobncncdaaGreatDoor.Sha
open Go.ChangeShapes Go.WideShapes Go.ChangeAt Go.WideMaps Go.WideElems Go.RowKit Go.Proofs.YtnjmocobncncdaaGreatDoor.Num Go.Proofs.YtnjmocobncncdaaGreatDoor.Mem Go.Proofs.YtnjmocobncncdaaGreatDoor.Bt
set_option linter.unusedVariables false
theorem gRef : Tryz.prog.globalNamed "almagest/almagestref02.k" = some 0 := by kernel_rfl
theorem tRef : (Tryz.prog.globals[0]?).map (·.type) = some 162 := by kernel_rfl
theorem laidRef {H : Type} : (Rows.laid_almagest_almagestref02_k : DataW H) = ksD H := rfl -- variable 0
/-- Both tables, where both are listed. -/
theorem of_laid2 {W : World} (h : laidMetH Tryz.prog [("almagest/almagestref02.k", Rows.laid_almagest_almagestref02_k), ("almagest/sha.k", Rows.laid_almagest_sha_k)] W) : W.rangeAt 1 0 (u32s ks) ∧ W.rangeAt 0 0 (u32s ks) := by
  rw [MakeChecks.laidMetH_plain _ _ _ (by kernel_rfl)] at h
  obtain ⟨ps, ⟨g0, t0, cs0, f0, p0, q0, hg0, ht0, hv0, hd0, ⟨g1, t1, cs1, f1, p1, q1, hg1, ht1, hv1, hd1, _, _⟩, _⟩, _, _⟩ := h
  obtain rfl := Option.some.inj (gRef.symm.trans hg0)
  obtain rfl := Option.some.inj (gSha.symm.trans hg1)
  obtain rfl := Option.some.inj (tRef.symm.trans ht0)
  obtain rfl := Option.some.inj (tSha.symm.trans ht1)
  rw [laidRef] at hd0
  rw [laidSha] at hd1
  exact ⟨range_var hg1 hv1 (tab_read hd1), range_var hg0 hv0 (tab_read hd0)⟩
end Go.Proofs.YtnjmocobncncdaaGreatDoor.Sha
