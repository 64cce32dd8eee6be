/-
  Arguments that came in, opened: digests, an epoch's data, pairs, blocks. Over this seat's translation.
-/
import Derived.Test.YtaihhbiocolhcaaDoorEpoAll
import Derived.Test.YtaihhbiocolhcaaDoorReadHash
import Derived.Test.YtaihhbiocolhcaaDoorFitAll
namespace Go.Proofs.YtaihhbiocolhcaaDoor.Ep
open Go.ChangeShapes Go.WideShapes Go.ChangeAt Go.RowKit Go.Proofs.YtaihhbiocolhcaaDoor.Mem Go.Proofs.YtaihhbiocolhcaaDoor.Bt Go.Proofs.YtaihhbiocolhcaaDoor.Tg
set_option linter.unusedVariables false

theorem okWide_arr {P : Program} {w : World} {r : Reach} {base n : Nat} {t e : TypeId} {v : Value} (ht : P.underlying t = some (.array n e)) (h : Value.okWide P w r base t v) : ∃ cs, v = .agg cs := by
  simp only [Value.okWide, ht] at h
  obtain ⟨cs, h1, _⟩ := h
  exact ⟨cs, h1⟩
theorem u8_bd {n : Int} (h : (Lit.int .u8 n).wf = true) : ∃ m : Nat, n = (m : Int) ∧ m < 256 := by
  simp [Lit.wf, IntKind.min, IntKind.max, IntKind.signed, IntKind.bits] at h
  exact ⟨n.toNat, by omega, by omega⟩
theorem u32_nat {n : Int} (h : (Lit.int .u32 n).wf = true) : ∃ m : Nat, n = (m : Int) ∧ m < 4294967296 := by
  simp [Lit.wf, IntKind.min, IntKind.max, IntKind.signed, IntKind.bits] at h
  exact ⟨n.toNat, by omega, by omega⟩
theorem nats_of : ∀ ns : List Int, (∀ x ∈ ns, (Lit.int .u8 x).wf = true) → ∃ hs : List Nat, ns.map (Value.int .u8) = u8s hs ∧ hs.length = ns.length ∧ AllLt 256 hs
  | [], _ => ⟨[], rfl, rfl, fun x hx => by cases hx⟩
  | n :: ns, h => by
    obtain ⟨hs, e, hl, hlt⟩ := nats_of ns (fun x hx => h x (by simp [hx]))
    obtain ⟨m, hm, hmb⟩ := u8_bd (h n (by simp))
    refine ⟨m :: hs, by rw [List.map_cons, e, hm]; rfl, by simp [hl], fun x hx => ?_⟩
    rcases List.mem_cons.1 hx with rfl | hx
    · exact hmb
    · exact hlt x hx
set_option maxRecDepth 100000 in
theorem c_hash {d : Nat} {cs : List Value} (h : Came Tryd.prog (d + 2) 23 cs) : ∃ x, cs = u8s x ∧ H32 x := by
  obtain ⟨ns, e, hl, hw⟩ := came_ints (n := 32) (e := 5) (k := .u8) (by kernel_rfl) (by kernel_rfl) (by kernel_rfl) (by kernel_rfl) h
  obtain ⟨hs, e2, hl2, hlt⟩ := nats_of ns hw
  exact ⟨hs, by rw [e, e2], ⟨by omega, hlt⟩⟩
set_option maxRecDepth 100000 in
theorem c_num {d : Nat} {cs : List Value} (h : Came Tryd.prog (d + 1) 25 cs) : ∃ n, cs = [num32 n] ∧ n < 4294967296 := by
  obtain ⟨n, e, hw⟩ := came_int (k := .u32) (by kernel_rfl) h
  obtain ⟨m, rfl, hm⟩ := u32_nat hw
  exact ⟨m, e, hm⟩
section
variable {H : Type} {enc : TypeId × Value → H} {w : World} {base : Nat} {spare : Nat → Bool} {held : Bool} {fuel : Nat} {cs : List Value} {x : DataW H × List MemPlace}
set_option maxRecDepth 100000 in
theorem h32_of (h : DataW.trod enc Tryd.prog w base spare held fuel 23 cs = some x) : ∃ b : List Nat, cs = u8s b ∧ H32 b := c_hash (came_trod 2 _ _ _ _ (by kernel_rfl) h)
end
theorem hash_und : Tryd.prog.underlying 23 = some (.array 32 5) := by kernel_rfl
end Go.Proofs.YtaihhbiocolhcaaDoor.Ep
