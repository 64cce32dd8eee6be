/-
  What the row's condition gives the walks: the two tables hold the chapter's sixty-four numbers. A slice of bytes that came in, as a list of bytes.
-/
import Derived.Test.YtpkciokcegjcfaaDoorRows
import Derived.Test.YtpkciokcegjcfaaDoorShaLaws
import Derived.ProofKit
import Derived.LaidMore
import Derived.OpenShut
import Derived.Stop.Joined
namespace Go.Proofs.YtpkciokcegjcfaaDoor.Sha
open Go.ChangeShapes Go.WideShapes Go.ChangeAt Go.WideMaps Go.WideElems Go.RowKit Go.Proofs.YtpkciokcegjcfaaDoor.Num Go.Proofs.YtpkciokcegjcfaaDoor.Mem
set_option linter.unusedVariables false
theorem gRef : Tryd.prog.globalNamed "almagest/almagestref02.k" = some 0 := by kernel_rfl
theorem gSha : Tryd.prog.globalNamed "almagest/sha.k" = some 1 := by kernel_rfl
theorem tRef : (Tryd.prog.globals[0]?).map (·.type) = some 47 := by kernel_rfl
theorem tSha : (Tryd.prog.globals[1]?).map (·.type) = some 47 := by kernel_rfl
def ksD (H : Type) : DataW H := .agg (ks.map fun n : Nat => .lit (.int .u32 (n : Int)))
theorem laidRef {H : Type} : (Rows.laid_almagest_almagestref02_k : DataW H) = ksD H := rfl
theorem laidSha {H : Type} : (Rows.laid_almagest_sha_k : DataW H) = ksD H := rfl
/-- A table that reads as the sixty-four numbers holds them. -/
theorem tab_read {H : Type} {enc : TypeId × Value → H} {w : World} {base : Nat} {spare : Nat → Bool} {held : Bool} {fuel : Nat} {cs : List Value} {pl : List MemPlace} (h : DataW.trod enc Tryd.prog w base spare held fuel 47 cs = some (ksD H, pl)) : cs = u32s ks := by
  obtain ⟨xs, m, rfl, hx, hlen, hn, hel⟩ := DataW.trod_array Tryd.underlying47 h
  have c39 : Tryd.prog.cellsOf 39 = 1 := by kernel_rfl
  have c47 : Tryd.prog.cellsOf 47 = 64 := by kernel_rfl
  rw [c47] at hlen
  simp only [Prod.mk.injEq, ksD, DataW.agg.injEq] at hx
  have hm := hx.1
  apply List.ext_getElem?
  intro i
  by_cases hi : i < 64
  · have h1 := hel i hi
    rw [c39, Nat.mul_one] at h1
    obtain ⟨y, hy⟩ : ∃ y, xs[i]? = some y := ⟨_, List.getElem?_eq_getElem (by omega)⟩
    rw [hy] at h1
    obtain ⟨n, e1, e2, _⟩ := DataW.trod_int Tryd.underlying39 h1
    have h2 : (xs.map (·.1))[i]? = some (.lit (.int .u32 n)) := by rw [List.getElem?_map, hy, e2]; rfl
    rw [← hm, List.getElem?_map] at h2
    have hk : i < ks.length := hi
    rw [List.getElem?_eq_getElem hk] at h2
    simp only [Option.map_some, Option.some.injEq, DataW.lit.injEq, Lit.int.injEq, true_and] at h2
    have h3 : cs[i]? = some (.int .u32 n) := by
      have := congrArg (fun l => l[0]?) e1
      simp only [List.getElem?_take, List.getElem?_drop] at this
      simpa using this
    rw [h3, ← h2]
    unfold u32s
    rw [List.getElem?_map, List.getElem?_eq_getElem hk]
    rfl
  · rw [List.getElem?_eq_none (by omega), List.getElem?_eq_none (by rw [u32s_length]; show 64 ≤ i; omega)]
theorem range_var {w : World} {n : String} {g : Nat} {cs : Array Value} (hg : Tryd.prog.globalNamed n = some g) (hv : w.var? Tryd.prog n = some cs) (hc : cs.toList = u32s ks) : w.rangeAt g 0 (u32s ks) := fun j v hj => by
  rw [Nat.zero_add, World.var?_cell hg hv j, ← Array.getElem?_toList, hc]
  exact hj
/-- Both tables, where both are listed. -/
theorem of_laid2 {W : World} (h : laidMetH Tryd.prog Rows.shaTellsRow.laid W) : W.rangeAt 1 0 (u32s ks) ∧ W.rangeAt 0 0 (u32s ks) := by
  rw [MakeChecks.laidMetH_plain _ _ _ (by kernel_rfl)] at h
  obtain ⟨ps, ⟨g0, t0, cs0, f0, p0, q0, hg0, ht0, hv0, hd0, ⟨g1, t1, cs1, f1, p1, q1, hg1, ht1, hv1, hd1, _, _⟩, _⟩, _, _⟩ := h
  obtain rfl := Option.some.inj (gRef.symm.trans hg0)
  obtain rfl := Option.some.inj (gSha.symm.trans hg1)
  obtain rfl := Option.some.inj (tRef.symm.trans ht0)
  obtain rfl := Option.some.inj (tSha.symm.trans ht1)
  rw [laidRef] at hd0
  rw [laidSha] at hd1
  exact ⟨range_var hg1 hv1 (tab_read hd1), range_var hg0 hv0 (tab_read hd0)⟩
/-- One table, where it alone is listed. -/
theorem of_laid1 {W : World} (h : laidMetH Tryd.prog Rows.shaPartsRow.laid W) : W.rangeAt 1 0 (u32s ks) := by
  rw [MakeChecks.laidMetH_plain _ _ _ (by kernel_rfl)] at h
  obtain ⟨ps, ⟨g1, t1, cs1, f1, p1, q1, hg1, ht1, hv1, hd1, _, _⟩, _, _⟩ := h
  obtain rfl := Option.some.inj (gSha.symm.trans hg1)
  obtain rfl := Option.some.inj (tSha.symm.trans ht1)
  rw [laidSha] at hd1
  exact range_var hg1 hv1 (tab_read hd1)
/-- A slice of bytes that came in. -/
structure Came (w : World) (p : Option Addr) (cap : Nat) (bs : List Nat) : Prop where
  cap_ : bs.length ≤ cap
  nil_ : p = none → cap = 0
  at_ : bs ≠ [] → ∃ g o, p = some ⟨g, o, none⟩ ∧ w.rangeAt g o (u8s bs)
  lt_ : AllLt 256 bs
  max_ : cap ≤ maxLen
theorem came_of {H : Type} {enc : TypeId × Value → H} {w : World} {base : Nat} {spare : Nat → Bool} {held : Bool} {fuel : Nat} {cs : List Value} {x : DataW H × List MemPlace}
    (h : DataW.trod enc Tryd.prog w base spare held fuel 22 cs = some x) : ∃ p cap bs, cs = [.slice p bs.length cap] ∧ Came w p cap bs := by
  rcases open_ints Tryd.underlying22 Tryd.underlying5 (by kernel_rfl) h with ⟨rfl, _⟩ | ⟨a, len, cap, zs, rfl, _, hlc, hcm, hzl, _, hc, hwf⟩
  · exact ⟨none, 0, [], rfl, ⟨by simp, fun _ => rfl, fun h => absurd rfl h, fun x hx => (by cases hx), by unfold maxLen; omega⟩⟩
  · have hlz : len ≤ zs.length := by rw [hzl]; split <;> omega
    have hbl : ((zs.take len).map Int.toNat).length = len := by rw [List.length_map, List.length_take]; omega
    have hz : ∀ n ∈ zs, 0 ≤ n ∧ n ≤ 255 := fun n hn => by
      have h := hwf n hn
      simp [Lit.wf, IntKind.min, IntKind.max, IntKind.signed, IntKind.bits] at h; omega
    refine ⟨some a, cap, (zs.take len).map Int.toNat, by rw [hbl], ⟨by rw [hbl]; exact hlc, fun e => (by cases e), fun hne => ?_, fun x hx => ?_, hcm⟩⟩
    · have hpos : 0 < len := by
        rcases Nat.eq_zero_or_pos len with h0 | h0
        · rw [h0] at hne; simp at hne
        · exact h0
      have hc0 := hc 0 (by omega)
      have hsp : a.spot = none := by
        simp only [Addr.add, if_true] at hc0
        unfold World.cell? at hc0
        split at hc0
        · split at hc0
          · cases hc0
          · rename_i hs; simpa using hs
        · cases hc0
      obtain ⟨g, o, sp⟩ := a
      simp only at hsp
      subst hsp
      refine ⟨g, o, rfl, fun j v hj => ?_⟩
      have hj2 := (List.getElem?_eq_some_iff.1 hj).1
      rw [u8s_length, hbl] at hj2
      have hcj := hc j (by omega)
      rw [Addr.add_mid] at hcj
      rw [hcj, ← hj, u8s_get (by rw [hbl]; exact hj2)]
      have hzj : zs.getD j 0 = zs[j] := by rw [List.getD_eq_getElem?_getD, List.getElem?_eq_getElem (by omega)]; rfl
      have hb := hz _ (List.getElem_mem (l := zs) (n := j) (by omega))
      have : (((zs.take len).map Int.toNat).getD j 0 : Nat) = (zs[j]).toNat := by
        rw [List.getD_eq_getElem?_getD, List.getElem?_map, List.getElem?_take, if_pos hj2, List.getElem?_eq_getElem (by omega)]; rfl
      rw [this, hzj]
      congr 2
      omega
    · simp only [List.mem_map] at hx
      obtain ⟨n, hn, rfl⟩ := hx
      have := hz n (List.mem_of_mem_take hn)
      omega
end Go.Proofs.YtpkciokcegjcfaaDoor.Sha
