/-
  Protocol states that are written out, and '==' of them. Over this seat's translation.
-/
import Derived.Test.YtnjmocobncncdaaDoorStaMem
import Derived.Test.YtnjmocobncncdaaDoorMemAll
import Derived.Test.YtnjmocobncncdaaDoorFitAll
namespace Go.Proofs.YtnjmocobncncdaaDoor.Sa
open Go.ChangeShapes Go.WideShapes Go.ChangeAt Go.RowKit Go.Proofs.YtnjmocobncncdaaDoor.Mem Go.Proofs.YtnjmocobncncdaaDoor.Bt Go.Proofs.YtnjmocobncncdaaDoor.Rg
open Go.Proofs.YtnjmocobncncdaaDoor.Ep (H32 Dat zh zh_ok num32 dcs dcs_len dcs_one zd zd_ok Has h_len one_app one_num szH fit_hash)
set_option linter.unusedVariables false
set_option linter.unusedSimpArgs false

section
variable {s : Sta} {x : List Nat} (k : s.Ok)
include k
end
section
variable {s : Sta} {x : List Nat} (k : s.Ok) (rest : List (Nat × Value))
include k
end
theorem u32s_int (l : List Nat) : ∀ v ∈ u32s l, ∃ m, v = .int .u32 m := by
  intro v hv
  unfold u32s at hv
  obtain ⟨n, _, rfl⟩ := List.mem_map.1 hv
  exact ⟨_, rfl⟩
theorem has_wmin (M L : Nat) (cs : List Nat) : Has (Wn.wcs M L cs) 0 [num32 M] := ⟨[], rcs L cs, rfl, rfl⟩
theorem has_wring (M L : Nat) (cs : List Nat) : Has (Wn.wcs M L cs) 1 (rcs L cs) := ⟨[num32 M], [], by rw [List.append_nil]; rfl, rfl⟩
theorem has_rlast (L : Nat) (cs : List Nat) : Has (rcs L cs) 0 [num32 L] := ⟨[], u32s cs, rfl, rfl⟩
theorem has_rcounts (L : Nat) (cs : List Nat) : Has (rcs L cs) 1 (u32s cs) := ⟨[num32 L], [], by rw [List.append_nil]; rfl, rfl⟩
set_option maxRecDepth 100000 in
theorem fit_ring (e : Nat) (L : Nat) {cs : List Nat} (h : cs.length = 4) : Fit Tryd.prog (e + 3) 33 (rcs L cs) := by
  refine fit_struct [(30, 0), (31, 1)] (by kernel_rfl) (by kernel_rfl) (by kernel_rfl) (n := 5) (by kernel_rfl) (rcs_len h) ?_
  have c1 : Tryd.prog.cellsOf 30 = 1 := by kernel_rfl
  have c2 : Tryd.prog.cellsOf 31 = 4 := by kernel_rfl
  intro p hp
  simp only [List.mem_cons, List.not_mem_nil, or_false] at hp
  rcases hp with rfl | rfl
  · rw [c1, (has_rlast L cs).chunk (n := 1) rfl]; exact fit_int (by kernel_rfl) _
  · rw [c2, (has_rcounts L cs).chunk (n := 4) (by rw [u32s_length, h])]; exact fit_ints (n := 4) (e := 30) (by kernel_rfl) (by kernel_rfl) (by kernel_rfl) (by rw [u32s_length, h]) (u32s_int _)
set_option maxRecDepth 100000 in
theorem fit_win (e M L : Nat) {cs : List Nat} (h : cs.length = 4) : Fit Tryd.prog (e + 4) 35 (Wn.wcs M L cs) := by
  refine fit_struct [(30, 0), (33, 1)] (by kernel_rfl) (by kernel_rfl) (by kernel_rfl) (n := 6) (by kernel_rfl) (Wn.wcs_len h) ?_
  have c1 : Tryd.prog.cellsOf 30 = 1 := by kernel_rfl
  have c2 : Tryd.prog.cellsOf 33 = 5 := by kernel_rfl
  intro p hp
  simp only [List.mem_cons, List.not_mem_nil, or_false] at hp
  rcases hp with rfl | rfl
  · rw [c1, (has_wmin M L cs).chunk (n := 1) rfl]; exact fit_int (by kernel_rfl) _
  · rw [c2, (has_wring M L cs).chunk (n := 5) (rcs_len h)]; exact fit_ring e L h
section
variable {s : Sta} (k : s.Ok) (e : Nat)
include k
theorem h_prev : Has (scs s) 0 (u8s s.prev) := s_hash k (i := 0) (by omega) rfl
theorem h_ledg : Has (scs s) 32 (u8s s.led) := s_hash k (i := 1) (by omega) rfl
theorem h_drw : Has (scs s) 64 (u8s s.draw) := s_hash k (i := 2) (by omega) rfl
theorem h_slt : Has (scs s) 96 [num32 s.slot] := s_num k (i := 3) (by omega) rfl
theorem h_lngth : Has (scs s) 97 [num32 s.len] := s_num k (i := 4) (by omega) rfl
theorem h_cnt : Has (scs s) 98 [num32 s.count] := s_num k (i := 5) (by omega) rfl
set_option maxRecDepth 100000 in
theorem fit_sta : Fit Tryd.prog (e + 5) 41 (scs s) := by
  refine fit_struct [(29, 0), (29, 32), (29, 64), (30, 96), (30, 97), (30, 98), (35, 99), (39, 105)] (by kernel_rfl) (by kernel_rfl) (by kernel_rfl) (n := 363) (by kernel_rfl) (scs_len k) ?_
  have c1 : Tryd.prog.cellsOf 29 = 32 := by kernel_rfl
  have c2 : Tryd.prog.cellsOf 30 = 1 := by kernel_rfl
  have c3 : Tryd.prog.cellsOf 35 = 6 := by kernel_rfl
  have c4 : Tryd.prog.cellsOf 39 = 258 := by kernel_rfl
  intro p hp
  simp only [List.mem_cons, List.not_mem_nil, or_false] at hp
  rcases hp with rfl | rfl | rfl | rfl | rfl | rfl | rfl | rfl
  · rw [c1, (h_prev k).chunk (h_len k.prev)]; exact fit_hash _ k.prev
  · rw [c1, (h_ledg k).chunk (h_len k.led)]; exact fit_hash _ k.led
  · rw [c1, (h_drw k).chunk (h_len k.draw)]; exact fit_hash _ k.draw
  · rw [c2, (h_slt k).chunk (n := 1) rfl]; exact fit_int (by kernel_rfl) _
  · rw [c2, (h_lngth k).chunk (n := 1) rfl]; exact fit_int (by kernel_rfl) _
  · rw [c2, (h_cnt k).chunk (n := 1) rfl]; exact fit_int (by kernel_rfl) _
  · rw [c3, (s_win k).chunk (Wn.wcs_len k.counts)]; exact fit_win e _ _ k.counts
  · rw [c4, (s_eps k).chunk (Ep.pcs_len k.now k.next)]; exact Ep.fit_pair e k.now k.next
end
section
variable {o : Oper} {a : Act}
set_option maxRecDepth 100000 in
theorem run_op_eqlS {s t : Sta} (k : s.Ok) (j : t.Ok) (y z : Operand) (t' : TypeId) (ho : o.op = .binOp .eql 41 y z t') (hy : a.eval y = .agg (scs s).toArray) (hz : a.eval z = .agg (scs t).toArray) (b : Bool) (hb : b = true ↔ scs s = scs t) (w : World) : (execOp a.eval o).run Tryd.prog w = .ok (.value (.bool b)) w :=
  run_op_eqlF 41 y z t' ho 5 (by omega) (.struct (Tryd.prog.fieldsOf 41)) (by kernel_rfl) rfl (by kernel_rfl) (scs s) (scs t) hy hz (fit_sta k 0) (fit_sta j 0) b hb w
set_option maxRecDepth 100000 in
theorem run_op_neqS {s t : Sta} (k : s.Ok) (j : t.Ok) (y z : Operand) (t' : TypeId) (ho : o.op = .binOp .neq 41 y z t') (hy : a.eval y = .agg (scs s).toArray) (hz : a.eval z = .agg (scs t).toArray) (b : Bool) (hb : b = true ↔ scs s = scs t) (w : World) : (execOp a.eval o).run Tryd.prog w = .ok (.value (.bool (!b))) w :=
  run_op_neqF 41 y z t' ho 5 (by omega) (.struct (Tryd.prog.fieldsOf 41)) (by kernel_rfl) rfl (by kernel_rfl) (scs s) (scs t) hy hz (fit_sta k 0) (fit_sta j 0) b hb w
end
end Go.Proofs.YtnjmocobncncdaaDoor.Sa
