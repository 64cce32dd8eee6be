/-
  States that came in, opened; what the rows' condition gives. Over this seat's translation.
-/
import Derived.Test.YtnjmocobncncdaaDoorEpoReads
import Derived.Test.YtnjmocobncncdaaDoorStaMem
import Derived.Test.YtnjmocobncncdaaDoorTab
namespace Go.Proofs.YtnjmocobncncdaaDoor.Sha
open Go.ChangeShapes Go.WideShapes Go.ChangeAt Go.WideMaps Go.WideElems Go.RowKit Go.Proofs.YtnjmocobncncdaaDoor.Num Go.Proofs.YtnjmocobncncdaaDoor.Mem Go.Proofs.YtnjmocobncncdaaDoor.Bt
/-- The project's table, where it alone is listed. -/
theorem of_laidS {W : World} (h : laidMetH Tryd.prog [("almagest/sha.k", Rows.laid_almagest_sha_k)] W) : W.rangeAt 0 0 (u32s ks) := by
  rw [MakeChecks.laidMetH_plain _ _ _ (by kernel_rfl)] at h
  obtain ⟨ps, ⟨g1, t1, cs1, f1, p1, q1, hg1, ht1, hv1, hd1, _, _⟩, _, _⟩ := h
  obtain rfl := Option.some.inj (gSha.symm.trans hg1)
  obtain rfl := Option.some.inj (tSha.symm.trans ht1)
  rw [laidSha] at hd1
  exact range_var hg1 hv1 (tab_read hd1)
end Go.Proofs.YtnjmocobncncdaaDoor.Sha
namespace Go.Proofs.YtnjmocobncncdaaDoor.Sa
open Go.ChangeShapes Go.WideShapes Go.ChangeAt Go.RowKit Go.Proofs.YtnjmocobncncdaaDoor.Mem Go.Proofs.YtnjmocobncncdaaDoor.Bt Go.Proofs.YtnjmocobncncdaaDoor.Tg Go.Proofs.YtnjmocobncncdaaDoor.Rg
open Go.Proofs.YtnjmocobncncdaaDoor.Ep (H32 Dat zh zh_ok num32 dcs Has h_len c_hash c_num c_pair u32_nat)
set_option linter.unusedVariables false
set_option linter.unusedSimpArgs false

theorem nats32_of : ∀ ns : List Int, (∀ x ∈ ns, (Lit.int .u32 x).wf = true) → ∃ hs : List Nat, ns.map (Value.int .u32) = u32s hs ∧ hs.length = ns.length ∧ AllLt 4294967296 hs
  | [], _ => ⟨[], rfl, rfl, fun x hx => by cases hx⟩
  | n :: ns, h => by
    obtain ⟨hs, e, hl, hlt⟩ := nats32_of ns (fun x hx => h x (by simp [hx]))
    obtain ⟨m, hm, hmb⟩ := u32_nat (h n (by simp))
    refine ⟨m :: hs, by rw [List.map_cons, e, hm]; rfl, by simp [hl], fun x hx => ?_⟩
    rcases List.mem_cons.1 hx with rfl | hx
    · exact hmb
    · exact hlt x hx
set_option maxRecDepth 100000 in
theorem c_counts {d : Nat} {cs : List Value} (h : Mem.Came Tryd.prog (d + 2) 31 cs) : ∃ x, cs = u32s x ∧ x.length = 4 ∧ AllLt 4294967296 x := by
  obtain ⟨ns, e, hl, hw⟩ := came_ints (n := 4) (e := 30) (k := .u32) (by kernel_rfl) (by kernel_rfl) (by kernel_rfl) (by kernel_rfl) h
  obtain ⟨hs, e2, hl2, hlt⟩ := nats32_of ns hw
  exact ⟨hs, by rw [e, e2], by omega, hlt⟩
set_option maxRecDepth 100000 in
theorem c_ring {d : Nat} {cs : List Value} (h : Mem.Came Tryd.prog (d + 3) 33 cs) : ∃ L x, cs = rcs L x ∧ L < 4294967296 ∧ x.length = 4 ∧ AllLt 4294967296 x := by
  obtain ⟨hl, hf⟩ := came_struct [(30, 0), (31, 1)] (n := 5) (by kernel_rfl) (by kernel_rfl) (by kernel_rfl) h
  have c1 : Tryd.prog.cellsOf 30 = 1 := by kernel_rfl
  have c2 : Tryd.prog.cellsOf 31 = 4 := by kernel_rfl
  have f0 := hf (30, 0) (by simp)
  have f1 := hf (31, 1) (by simp)
  simp only [c1, c2] at f0 f1
  obtain ⟨L, e0, k0⟩ := c_num f0
  obtain ⟨x, e1, l1, k1⟩ := c_counts f1
  refine ⟨L, x, ?_, k0, l1, k1⟩
  have s0 := chunk_split cs 0 1 5 (by omega)
  simp only [Nat.sub_zero, Nat.zero_add, Nat.reduceSub, Nat.reduceAdd] at s0
  rw [← chunk_all hl, s0, e0, e1]
  rfl
set_option maxRecDepth 100000 in
theorem c_win {d : Nat} {cs : List Value} (h : Mem.Came Tryd.prog (d + 4) 35 cs) : ∃ M L x, cs = Wn.wcs M L x ∧ M < 4294967296 ∧ L < 4294967296 ∧ x.length = 4 ∧ AllLt 4294967296 x := by
  obtain ⟨hl, hf⟩ := came_struct [(30, 0), (33, 1)] (n := 6) (by kernel_rfl) (by kernel_rfl) (by kernel_rfl) h
  have c1 : Tryd.prog.cellsOf 30 = 1 := by kernel_rfl
  have c2 : Tryd.prog.cellsOf 33 = 5 := by kernel_rfl
  have f0 := hf (30, 0) (by simp)
  have f1 := hf (33, 1) (by simp)
  simp only [c1, c2] at f0 f1
  obtain ⟨M, e0, k0⟩ := c_num f0
  obtain ⟨L, x, e1, k1, l1, k2⟩ := c_ring f1
  refine ⟨M, L, x, ?_, k0, k1, l1, k2⟩
  have s0 := chunk_split cs 0 1 6 (by omega)
  simp only [Nat.sub_zero, Nat.zero_add, Nat.reduceSub, Nat.reduceAdd] at s0
  rw [← chunk_all hl, s0, e0, e1]
  rfl
set_option maxRecDepth 100000 in
theorem c_sta {d : Nat} {cs : List Value} (h : Mem.Came Tryd.prog (d + 5) 41 cs) : ∃ s : Sta, cs = scs s ∧ s.Ok := by
  obtain ⟨hl, hf⟩ := came_struct [(29, 0), (29, 32), (29, 64), (30, 96), (30, 97), (30, 98), (35, 99), (39, 105)] (n := 363) (by kernel_rfl) (by kernel_rfl) (by kernel_rfl) h
  have c1 : Tryd.prog.cellsOf 29 = 32 := by kernel_rfl
  have c2 : Tryd.prog.cellsOf 30 = 1 := by kernel_rfl
  have c3 : Tryd.prog.cellsOf 35 = 6 := by kernel_rfl
  have c4 : Tryd.prog.cellsOf 39 = 258 := by kernel_rfl
  have f0 := hf (29, 0) (by simp)
  have f1 := hf (29, 32) (by simp)
  have f2 := hf (29, 64) (by simp)
  have f3 := hf (30, 96) (by simp)
  have f4 := hf (30, 97) (by simp)
  have f5 := hf (30, 98) (by simp)
  have f6 := hf (35, 99) (by simp)
  have f7 := hf (39, 105) (by simp)
  simp only [c1, c2, c3, c4] at f0 f1 f2 f3 f4 f5 f6 f7
  obtain ⟨a0, e0, k0⟩ := c_hash f0
  obtain ⟨a1, e1, k1⟩ := c_hash f1
  obtain ⟨a2, e2, k2⟩ := c_hash f2
  obtain ⟨n3, e3, k3⟩ := c_num f3
  obtain ⟨n4, e4, k4⟩ := c_num f4
  obtain ⟨n5, e5, k5⟩ := c_num f5
  obtain ⟨M, L, x, e6, kM, kL, lx, kx⟩ := c_win f6
  obtain ⟨y, z, e7, ky, kz⟩ := c_pair f7
  refine ⟨⟨a0, a1, a2, n3, n4, n5, M, L, x, y, z⟩, ?_, ⟨k0, k1, k2, k3, k4, k5, kM, kL, lx, kx, ky, kz⟩⟩
  have s0 := chunk_split cs 0 32 363 (by omega)
  have s1 := chunk_split cs 32 32 363 (by omega)
  have s2 := chunk_split cs 64 32 363 (by omega)
  have s3 := chunk_split cs 96 1 363 (by omega)
  have s4 := chunk_split cs 97 1 363 (by omega)
  have s5 := chunk_split cs 98 1 363 (by omega)
  have s6 := chunk_split cs 99 6 363 (by omega)
  simp only [Nat.sub_zero, Nat.zero_add, Nat.reduceSub, Nat.reduceAdd] at s0 s1 s2 s3 s4 s5 s6
  rw [← chunk_all hl, s0, s1, s2, s3, s4, s5, s6, e0, e1, e2, e3, e4, e5, e6, e7]
  rfl
section
variable {H : Type} {enc : TypeId × Value → H} {w : World} {base : Nat} {spare : Nat → Bool} {held : Bool} {fuel : Nat} {cs : List Value} {x : DataW H × List MemPlace}
set_option maxRecDepth 100000 in
theorem sta_of (h : DataW.trod enc Tryd.prog w base spare held fuel 41 cs = some x) : ∃ s : Sta, cs = scs s ∧ s.Ok := c_sta (came_trod 5 _ _ _ _ (by kernel_rfl) h)
end
end Go.Proofs.YtnjmocobncncdaaDoor.Sa
