/-
  Arguments that came in, opened: digests, an epoch's data, pairs, blocks. Over this seat's translation.
-/
import Derived.Test.YtnjmocobncncdaaDoorEpoAll
import Derived.Test.YtnjmocobncncdaaDoorBytAll
import Derived.Deep.Slices
import Derived.ProofKit
import Derived.OpenShut
import Derived.Test.YtnjmocobncncdaaDoorFitAll
namespace Go.Proofs.YtnjmocobncncdaaDoor.Ep
open Go.ChangeShapes Go.WideShapes Go.ChangeAt Go.RowKit Go.Proofs.YtnjmocobncncdaaDoor.Mem Go.Proofs.YtnjmocobncncdaaDoor.Bt Go.Proofs.YtnjmocobncncdaaDoor.Tg
set_option linter.unusedVariables false

theorem u8_bd {n : Int} (h : (Lit.int .u8 n).wf = true) : ∃ m : Nat, n = (m : Int) ∧ m < 256 := by
  simp [Lit.wf, IntKind.min, IntKind.max, IntKind.signed, IntKind.bits] at h
  exact ⟨n.toNat, by omega, by omega⟩
theorem u32_nat {n : Int} (h : (Lit.int .u32 n).wf = true) : ∃ m : Nat, n = (m : Int) ∧ m < 4294967296 := by
  simp [Lit.wf, IntKind.min, IntKind.max, IntKind.signed, IntKind.bits] at h
  exact ⟨n.toNat, by omega, by omega⟩
theorem nats_of : ∀ ns : List Int, (∀ x ∈ ns, (Lit.int .u8 x).wf = true) → ∃ hs : List Nat, ns.map (Value.int .u8) = u8s hs ∧ hs.length = ns.length ∧ AllLt 256 hs
  | [], _ => ⟨[], rfl, rfl, fun x hx => by cases hx⟩
  | n :: ns, h => by
    obtain ⟨hs, e, hl, hlt⟩ := nats_of ns (fun x hx => h x (by simp [hx]))
    obtain ⟨m, hm, hmb⟩ := u8_bd (h n (by simp))
    refine ⟨m :: hs, by rw [List.map_cons, e, hm]; rfl, by simp [hl], fun x hx => ?_⟩
    rcases List.mem_cons.1 hx with rfl | hx
    · exact hmb
    · exact hlt x hx
set_option maxRecDepth 100000 in
theorem c_hash {d : Nat} {cs : List Value} (h : Came Tryd.prog (d + 2) 29 cs) : ∃ x, cs = u8s x ∧ H32 x := by
  obtain ⟨ns, e, hl, hw⟩ := came_ints (n := 32) (e := 5) (k := .u8) (by kernel_rfl) (by kernel_rfl) (by kernel_rfl) (by kernel_rfl) h
  obtain ⟨hs, e2, hl2, hlt⟩ := nats_of ns hw
  exact ⟨hs, by rw [e, e2], ⟨by omega, hlt⟩⟩
set_option maxRecDepth 100000 in
theorem c_num {d : Nat} {cs : List Value} (h : Came Tryd.prog (d + 1) 30 cs) : ∃ n, cs = [num32 n] ∧ n < 4294967296 := by
  obtain ⟨n, e, hw⟩ := came_int (k := .u32) (by kernel_rfl) h
  obtain ⟨m, rfl, hm⟩ := u32_nat hw
  exact ⟨m, e, hm⟩
set_option maxRecDepth 100000 in
theorem c_dat {d : Nat} {cs : List Value} (h : Came Tryd.prog (d + 3) 37 cs) : ∃ x : Dat, cs = dcs x ∧ x.Ok := by
  obtain ⟨hl, hf⟩ := came_struct [(29, 0), (29, 32), (29, 64), (29, 96), (30, 128)] (n := 129) (by kernel_rfl) (by kernel_rfl) (by kernel_rfl) h
  have c1 : Tryd.prog.cellsOf 29 = 32 := by kernel_rfl
  have c2 : Tryd.prog.cellsOf 30 = 1 := by kernel_rfl
  have f0 := hf (29, 0) (by simp)
  have f1 := hf (29, 32) (by simp)
  have f2 := hf (29, 64) (by simp)
  have f3 := hf (29, 96) (by simp)
  have f4 := hf (30, 128) (by simp)
  simp only [c1, c2] at f0 f1 f2 f3 f4
  obtain ⟨a, ea, ka⟩ := c_hash f0
  obtain ⟨b, eb, kb⟩ := c_hash f1
  obtain ⟨c, ec, kc⟩ := c_hash f2
  obtain ⟨e, ee, ke⟩ := c_hash f3
  obtain ⟨n, en, kn⟩ := c_num f4
  refine ⟨⟨a, b, c, e, n⟩, ?_, ⟨ka, kb, kc, ke, kn⟩⟩
  have s0 := chunk_split cs 0 32 129 (by omega)
  have s1 := chunk_split cs 32 32 129 (by omega)
  have s2 := chunk_split cs 64 32 129 (by omega)
  have s3 := chunk_split cs 96 32 129 (by omega)
  simp only [Nat.sub_zero, Nat.zero_add, Nat.reduceSub, Nat.reduceAdd] at s0 s1 s2 s3
  have sa := chunk_all hl
  rw [← sa, s0, s1, s2, s3, ea, eb, ec, ee, en]
  rfl
set_option maxRecDepth 100000 in
theorem c_pair {d : Nat} {cs : List Value} (h : Came Tryd.prog (d + 4) 39 cs) : ∃ x y : Dat, cs = pcs x y ∧ x.Ok ∧ y.Ok := by
  obtain ⟨hl, hf⟩ := came_struct [(37, 0), (37, 129)] (n := 258) (by kernel_rfl) (by kernel_rfl) (by kernel_rfl) h
  have c1 : Tryd.prog.cellsOf 37 = 129 := by kernel_rfl
  have f0 := hf (37, 0) (by simp)
  have f1 := hf (37, 129) (by simp)
  simp only [c1] at f0 f1
  obtain ⟨x, ex, kx⟩ := c_dat f0
  obtain ⟨y, ey, ky⟩ := c_dat f1
  refine ⟨x, y, ?_, kx, ky⟩
  have s0 := chunk_split cs 0 129 258 (by omega)
  simp only [Nat.sub_zero, Nat.zero_add, Nat.reduceSub] at s0
  rw [← chunk_all hl, s0, ex, ey]
  rfl
section
variable {H : Type} {enc : TypeId × Value → H} {w : World} {base : Nat} {spare : Nat → Bool} {held : Bool} {fuel : Nat} {cs : List Value} {x : DataW H × List MemPlace}
end
end Go.Proofs.YtnjmocobncncdaaDoor.Ep
