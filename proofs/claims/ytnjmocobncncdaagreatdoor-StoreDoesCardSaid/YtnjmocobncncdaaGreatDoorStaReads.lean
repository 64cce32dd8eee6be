/-
  States that came in, opened; what the rows' condition gives. Over this seat's translation.
-/
import Derived.Test.YtnjmocobncncdaaGreatDoorEpoReads
import Derived.Test.YtnjmocobncncdaaGreatDoorStaMem
import Derived.Test.YtnjmocobncncdaaGreatDoorTab2
namespace Go.Proofs.YtnjmocobncncdaaGreatDoor.Sha
open Go.ChangeShapes Go.WideShapes Go.ChangeAt Go.WideMaps Go.WideElems Go.RowKit Go.Proofs.YtnjmocobncncdaaGreatDoor.Num Go.Proofs.YtnjmocobncncdaaGreatDoor.Mem Go.Proofs.YtnjmocobncncdaaGreatDoor.Bt
end Go.Proofs.YtnjmocobncncdaaGreatDoor.Sha
namespace Go.Proofs.YtnjmocobncncdaaGreatDoor.Sa
open Go.ChangeShapes Go.WideShapes Go.ChangeAt Go.RowKit Go.Proofs.YtnjmocobncncdaaGreatDoor.Mem Go.Proofs.YtnjmocobncncdaaGreatDoor.Bt Go.Proofs.YtnjmocobncncdaaGreatDoor.Tg Go.Proofs.YtnjmocobncncdaaGreatDoor.Rg
open Go.Proofs.YtnjmocobncncdaaGreatDoor.Ep (H32 Dat zh zh_ok num32 dcs Has h_len c_hash c_num c_pair u32_nat)
set_option linter.unusedVariables false
set_option linter.unusedSimpArgs false

theorem nats32_of : ∀ ns : List Int, (∀ x ∈ ns, (Lit.int .u32 x).wf = true) → ∃ hs : List Nat, ns.map (Value.int .u32) = u32s hs ∧ hs.length = ns.length ∧ AllLt 4294967296 hs
  | [], _ => ⟨[], rfl, rfl, fun x hx => by cases hx⟩
  | n :: ns, h => by
    obtain ⟨hs, e, hl, hlt⟩ := nats32_of ns (fun x hx => h x (by simp [hx]))
    obtain ⟨m, hm, hmb⟩ := u32_nat (h n (by simp))
    refine ⟨m :: hs, by rw [List.map_cons, e, hm]; rfl, by simp [hl], fun x hx => ?_⟩
    rcases List.mem_cons.1 hx with rfl | hx
    · exact hmb
    · exact hlt x hx
set_option maxRecDepth 100000 in
theorem c_counts {d : Nat} {cs : List Value} (h : Mem.Came Tryz.prog (d + 2) 34 cs) : ∃ x, cs = u32s x ∧ x.length = 4 ∧ AllLt 4294967296 x := by
  obtain ⟨ns, e, hl, hw⟩ := came_ints (n := 4) (e := 33) (k := .u32) (by kernel_rfl) (by kernel_rfl) (by kernel_rfl) (by kernel_rfl) h
  obtain ⟨hs, e2, hl2, hlt⟩ := nats32_of ns hw
  exact ⟨hs, by rw [e, e2], by omega, hlt⟩
set_option maxRecDepth 100000 in
theorem c_ring {d : Nat} {cs : List Value} (h : Mem.Came Tryz.prog (d + 3) 36 cs) : ∃ L x, cs = rcs L x ∧ L < 4294967296 ∧ x.length = 4 ∧ AllLt 4294967296 x := by
  obtain ⟨hl, hf⟩ := came_struct [(33, 0), (34, 1)] (n := 5) (by kernel_rfl) (by kernel_rfl) (by kernel_rfl) h
  have c1 : Tryz.prog.cellsOf 33 = 1 := by kernel_rfl
  have c2 : Tryz.prog.cellsOf 34 = 4 := by kernel_rfl
  have f0 := hf (33, 0) (by simp)
  have f1 := hf (34, 1) (by simp)
  simp only [c1, c2] at f0 f1
  obtain ⟨L, e0, k0⟩ := c_num f0
  obtain ⟨x, e1, l1, k1⟩ := c_counts f1
  refine ⟨L, x, ?_, k0, l1, k1⟩
  have s0 := chunk_split cs 0 1 5 (by omega)
  simp only [Nat.sub_zero, Nat.zero_add, Nat.reduceSub, Nat.reduceAdd] at s0
  rw [← chunk_all hl, s0, e0, e1]
  rfl
set_option maxRecDepth 100000 in
theorem c_win {d : Nat} {cs : List Value} (h : Mem.Came Tryz.prog (d + 4) 38 cs) : ∃ M L x, cs = Wn.wcs M L x ∧ M < 4294967296 ∧ L < 4294967296 ∧ x.length = 4 ∧ AllLt 4294967296 x := by
  obtain ⟨hl, hf⟩ := came_struct [(33, 0), (36, 1)] (n := 6) (by kernel_rfl) (by kernel_rfl) (by kernel_rfl) h
  have c1 : Tryz.prog.cellsOf 33 = 1 := by kernel_rfl
  have c2 : Tryz.prog.cellsOf 36 = 5 := by kernel_rfl
  have f0 := hf (33, 0) (by simp)
  have f1 := hf (36, 1) (by simp)
  simp only [c1, c2] at f0 f1
  obtain ⟨M, e0, k0⟩ := c_num f0
  obtain ⟨L, x, e1, k1, l1, k2⟩ := c_ring f1
  refine ⟨M, L, x, ?_, k0, k1, l1, k2⟩
  have s0 := chunk_split cs 0 1 6 (by omega)
  simp only [Nat.sub_zero, Nat.zero_add, Nat.reduceSub, Nat.reduceAdd] at s0
  rw [← chunk_all hl, s0, e0, e1]
  rfl
set_option maxRecDepth 100000 in
theorem c_sta {d : Nat} {cs : List Value} (h : Mem.Came Tryz.prog (d + 5) 44 cs) : ∃ s : Sta, cs = scs s ∧ s.Ok := by
  obtain ⟨hl, hf⟩ := came_struct [(32, 0), (32, 32), (32, 64), (33, 96), (33, 97), (33, 98), (38, 99), (42, 105)] (n := 363) (by kernel_rfl) (by kernel_rfl) (by kernel_rfl) h
  have c1 : Tryz.prog.cellsOf 32 = 32 := by kernel_rfl
  have c2 : Tryz.prog.cellsOf 33 = 1 := by kernel_rfl
  have c3 : Tryz.prog.cellsOf 38 = 6 := by kernel_rfl
  have c4 : Tryz.prog.cellsOf 42 = 258 := by kernel_rfl
  have f0 := hf (32, 0) (by simp)
  have f1 := hf (32, 32) (by simp)
  have f2 := hf (32, 64) (by simp)
  have f3 := hf (33, 96) (by simp)
  have f4 := hf (33, 97) (by simp)
  have f5 := hf (33, 98) (by simp)
  have f6 := hf (38, 99) (by simp)
  have f7 := hf (42, 105) (by simp)
  simp only [c1, c2, c3, c4] at f0 f1 f2 f3 f4 f5 f6 f7
  obtain ⟨a0, e0, k0⟩ := c_hash f0
  obtain ⟨a1, e1, k1⟩ := c_hash f1
  obtain ⟨a2, e2, k2⟩ := c_hash f2
  obtain ⟨n3, e3, k3⟩ := c_num f3
  obtain ⟨n4, e4, k4⟩ := c_num f4
  obtain ⟨n5, e5, k5⟩ := c_num f5
  obtain ⟨M, L, x, e6, kM, kL, lx, kx⟩ := c_win f6
  obtain ⟨y, z, e7, ky, kz⟩ := c_pair f7
  refine ⟨⟨a0, a1, a2, n3, n4, n5, M, L, x, y, z⟩, ?_, ⟨k0, k1, k2, k3, k4, k5, kM, kL, lx, kx, ky, kz⟩⟩
  have s0 := chunk_split cs 0 32 363 (by omega)
  have s1 := chunk_split cs 32 32 363 (by omega)
  have s2 := chunk_split cs 64 32 363 (by omega)
  have s3 := chunk_split cs 96 1 363 (by omega)
  have s4 := chunk_split cs 97 1 363 (by omega)
  have s5 := chunk_split cs 98 1 363 (by omega)
  have s6 := chunk_split cs 99 6 363 (by omega)
  simp only [Nat.sub_zero, Nat.zero_add, Nat.reduceSub, Nat.reduceAdd] at s0 s1 s2 s3 s4 s5 s6
  rw [← chunk_all hl, s0, s1, s2, s3, s4, s5, s6, e0, e1, e2, e3, e4, e5, e6, e7]
  rfl
section
variable {H : Type} {enc : TypeId × Value → H} {w : World} {base : Nat} {spare : Nat → Bool} {held : Bool} {fuel : Nat} {cs : List Value} {x : DataW H × List MemPlace}
set_option maxRecDepth 100000 in
theorem sta_of (h : DataW.trod enc Tryz.prog w base spare held fuel 44 cs = some x) : ∃ s : Sta, cs = scs s ∧ s.Ok := c_sta (came_trod 5 _ _ _ _ (by kernel_rfl) h)
end
end Go.Proofs.YtnjmocobncncdaaGreatDoor.Sa
