/-
  What a row's condition gives the walks: sha's table holds the chapter's sixty-four numbers. Over this seat's translation.
-/
import Derived.Test.YtnjmocobncncdaaDoorRows
import Derived.Test.YtnjmocobncncdaaDoorShaAll
import Derived.ProofKit
import Derived.LaidMore
import Derived.OpenShut
import Derived.Stop.Joined
namespace Go.Proofs.YtnjmocobncncdaaDoor.Sha
open Go.ChangeShapes Go.WideShapes Go.ChangeAt Go.WideMaps Go.WideElems Go.RowKit Go.Proofs.YtnjmocobncncdaaDoor.Num Go.Proofs.YtnjmocobncncdaaDoor.Mem Go.Proofs.YtnjmocobncncdaaDoor.Bt
set_option linter.unusedVariables false
theorem gSha : Tryd.prog.globalNamed "almagest/sha.k" = some 0 := by kernel_rfl
theorem tSha : (Tryd.prog.globals[0]?).map (·.type) = some 136 := by kernel_rfl
def ksD (H : Type) : DataW H := .agg (ks.map fun n : Nat => .lit (.int .u32 (n : Int)))
theorem laidSha {H : Type} : (Rows.laid_almagest_sha_k : DataW H) = ksD H := rfl -- variable 0
/-- A table that reads as the sixty-four numbers holds them. -/
theorem tab_read {H : Type} {enc : TypeId × Value → H} {w : World} {base : Nat} {spare : Nat → Bool} {held : Bool} {fuel : Nat} {cs : List Value} {pl : List MemPlace} (h : DataW.trod enc Tryd.prog w base spare held fuel 136 cs = some (ksD H, pl)) : cs = u32s ks := by
  obtain ⟨xs, m, rfl, hx, hlen, hn, hel⟩ := DataW.trod_array Tryd.underlying136 h
  have c39 : Tryd.prog.cellsOf 30 = 1 := by kernel_rfl
  have c47 : Tryd.prog.cellsOf 136 = 64 := by kernel_rfl
  rw [c47] at hlen
  simp only [Prod.mk.injEq, ksD, DataW.agg.injEq] at hx
  have hm := hx.1
  apply List.ext_getElem?
  intro i
  by_cases hi : i < 64
  · have h1 := hel i hi
    rw [c39, Nat.mul_one] at h1
    obtain ⟨y, hy⟩ : ∃ y, xs[i]? = some y := ⟨_, List.getElem?_eq_getElem (by omega)⟩
    rw [hy] at h1
    obtain ⟨n, e1, e2, _⟩ := DataW.trod_int Tryd.underlying30 h1
    have h2 : (xs.map (·.1))[i]? = some (.lit (.int .u32 n)) := by rw [List.getElem?_map, hy, e2]; rfl
    rw [← hm, List.getElem?_map] at h2
    have hk : i < ks.length := hi
    rw [List.getElem?_eq_getElem hk] at h2
    simp only [Option.map_some, Option.some.injEq, DataW.lit.injEq, Lit.int.injEq, true_and] at h2
    have h3 : cs[i]? = some (.int .u32 n) := by
      have := congrArg (fun l => l[0]?) e1
      simp only [List.getElem?_take, List.getElem?_drop] at this
      simpa using this
    rw [h3, ← h2]
    unfold u32s
    rw [List.getElem?_map, List.getElem?_eq_getElem hk]
    rfl
  · rw [List.getElem?_eq_none (by omega), List.getElem?_eq_none (by rw [u32s_length]; show 64 ≤ i; omega)]
theorem range_var {w : World} {n : String} {g : Nat} {cs : Array Value} (hg : Tryd.prog.globalNamed n = some g) (hv : w.var? Tryd.prog n = some cs) (hc : cs.toList = u32s ks) : w.rangeAt g 0 (u32s ks) := fun j v hj => by
  rw [Nat.zero_add, World.var?_cell hg hv j, ← Array.getElem?_toList, hc]
  exact hj
end Go.Proofs.YtnjmocobncncdaaDoor.Sha
