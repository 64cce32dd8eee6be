/-
  Protocol states that are written out, and '==' of them. Over this seat's translation.
-/
import Derived.Test.YtnjmocobncncdaaGreatDoorStaMem
import Derived.Test.YtnjmocobncncdaaGreatDoorMemAll
import Derived.Test.YtnjmocobncncdaaGreatDoorFitAll
namespace Go.Proofs.YtnjmocobncncdaaGreatDoor.Sa
open Go.ChangeShapes Go.WideShapes Go.ChangeAt Go.RowKit Go.Proofs.YtnjmocobncncdaaGreatDoor.Mem Go.Proofs.YtnjmocobncncdaaGreatDoor.Bt Go.Proofs.YtnjmocobncncdaaGreatDoor.Rg
open Go.Proofs.YtnjmocobncncdaaGreatDoor.Ep (H32 Dat zh zh_ok num32 dcs dcs_len dcs_one zd zd_ok Has h_len one_app one_num szH fit_hash)
set_option linter.unusedVariables false
set_option linter.unusedSimpArgs false

theorem scs_app (s : Sta) : scs s = u8s s.prev ++ (u8s s.led ++ (u8s s.draw ++ ([num32 s.slot] ++ ([num32 s.len] ++ ([num32 s.count] ++ (Wn.wcs s.min s.last s.counts ++ (Ep.pcs s.now s.next ++ []))))))) := by rw [List.append_nil]; rfl
section
variable {s : Sta} {x : List Nat} (k : s.Ok)
include k
theorem lay_prev (hx : H32 x) : lay (scs s) 0 (u8s x) = scs { s with prev := x } := by
  rw [scs_app, lay_head _ _ _ (by rw [h_len hx, h_len k.prev]), scs_app]
theorem lay_ledg (hx : H32 x) : lay (scs s) 32 (u8s x) = scs { s with led := x } := by
  rw [scs_app, show (32 : Nat) = 32 + 0 from rfl, lay_skip _ _ _ 0 (h_len k.prev), lay_head _ _ _ (by rw [h_len hx, h_len k.led]), scs_app]
theorem lay_drw (hx : H32 x) : lay (scs s) 64 (u8s x) = scs { s with draw := x } := by
  rw [scs_app, show (64 : Nat) = 32 + (32 + 0) from rfl, lay_skip _ _ _ _ (h_len k.prev), lay_skip _ _ _ _ (h_len k.led), lay_head _ _ _ (by rw [h_len hx, h_len k.draw]), scs_app]
theorem lay_slt (n : Nat) : lay (scs s) 96 [num32 n] = scs { s with slot := n } := by
  rw [scs_app, show (96 : Nat) = 32 + (32 + (32 + 0)) from rfl, lay_skip _ _ _ _ (h_len k.prev), lay_skip _ _ _ _ (h_len k.led), lay_skip _ _ _ _ (h_len k.draw), lay_head [num32 s.slot] _ [num32 n] rfl, scs_app]
theorem lay_lngth (n : Nat) : lay (scs s) 97 [num32 n] = scs { s with len := n } := by
  rw [scs_app, show (97 : Nat) = 32 + (32 + (32 + (1 + 0))) from rfl, lay_skip _ _ _ _ (h_len k.prev), lay_skip _ _ _ _ (h_len k.led), lay_skip _ _ _ _ (h_len k.draw), lay_skip [num32 s.slot] _ _ _ (m := 1) rfl, lay_head [num32 s.len] _ [num32 n] rfl, scs_app]
theorem lay_cnt (n : Nat) : lay (scs s) 98 [num32 n] = scs { s with count := n } := by
  rw [scs_app, show (98 : Nat) = 32 + (32 + (32 + (1 + (1 + 0)))) from rfl, lay_skip _ _ _ _ (h_len k.prev), lay_skip _ _ _ _ (h_len k.led), lay_skip _ _ _ _ (h_len k.draw), lay_skip [num32 s.slot] _ _ _ (m := 1) rfl, lay_skip [num32 s.len] _ _ _ (m := 1) rfl, lay_head [num32 s.count] _ [num32 n] rfl, scs_app]
theorem lay_wn (M L : Nat) (cs : List Nat) (hc : cs.length = 4) : lay (scs s) 99 (Wn.wcs M L cs) = scs { s with min := M, last := L, counts := cs } := by
  rw [scs_app, show (99 : Nat) = 32 + (32 + (32 + (1 + (1 + (1 + 0))))) from rfl, lay_skip _ _ _ _ (h_len k.prev), lay_skip _ _ _ _ (h_len k.led), lay_skip _ _ _ _ (h_len k.draw), lay_skip [num32 s.slot] _ _ _ (m := 1) rfl, lay_skip [num32 s.len] _ _ _ (m := 1) rfl, lay_skip [num32 s.count] _ _ _ (m := 1) rfl, lay_head _ _ _ (by rw [Wn.wcs_len hc, Wn.wcs_len k.counts]), scs_app]
theorem lay_eps {a c : Dat} (ha : a.Ok) (hc : c.Ok) : lay (scs s) 105 (Ep.pcs a c) = scs { s with now := a, next := c } := by
  rw [scs_app, show (105 : Nat) = 32 + (32 + (32 + (1 + (1 + (1 + (6 + 0)))))) from rfl, lay_skip _ _ _ _ (h_len k.prev), lay_skip _ _ _ _ (h_len k.led), lay_skip _ _ _ _ (h_len k.draw), lay_skip [num32 s.slot] _ _ _ (m := 1) rfl, lay_skip [num32 s.len] _ _ _ (m := 1) rfl, lay_skip [num32 s.count] _ _ _ (m := 1) rfl, lay_skip _ _ _ _ (Wn.wcs_len k.counts), lay_head _ _ _ (by rw [Ep.pcs_len ha hc, Ep.pcs_len k.now k.next]), scs_app]
end
def splaces : Nat → Option (Nat × Nat) := fun i => (#[(0, 32), (32, 32), (64, 32), (96, 1), (97, 1), (98, 1), (99, 6), (105, 258)] : Array (Nat × Nat))[i]?
section
variable {s : Sta} {x : List Nat} (k : s.Ok) (rest : List (Nat × Value))
include k
theorem f_prev (hx : H32 x) : Instr.fill splaces (scs s).toArray ((0, .agg (u8s x).toArray) :: rest) = Instr.fill splaces (scs { s with prev := x }).toArray rest := by
  rw [fill_step splaces (scs s) 0 0 32 _ (u8s x) rest rfl rfl (h_len hx) (by rw [scs_len k]; omega), lay_prev k hx]
theorem f_ledg (hx : H32 x) : Instr.fill splaces (scs s).toArray ((1, .agg (u8s x).toArray) :: rest) = Instr.fill splaces (scs { s with led := x }).toArray rest := by
  rw [fill_step splaces (scs s) 1 32 32 _ (u8s x) rest rfl rfl (h_len hx) (by rw [scs_len k]; omega), lay_ledg k hx]
theorem f_drw (hx : H32 x) : Instr.fill splaces (scs s).toArray ((2, .agg (u8s x).toArray) :: rest) = Instr.fill splaces (scs { s with draw := x }).toArray rest := by
  rw [fill_step splaces (scs s) 2 64 32 _ (u8s x) rest rfl rfl (h_len hx) (by rw [scs_len k]; omega), lay_drw k hx]
theorem f_slt (n : Nat) : Instr.fill splaces (scs s).toArray ((3, num32 n) :: rest) = Instr.fill splaces (scs { s with slot := n }).toArray rest := by
  rw [fill_step splaces (scs s) 3 96 1 (num32 n) [num32 n] rest rfl rfl rfl (by rw [scs_len k]; omega), lay_slt k]
theorem f_lngth (n : Nat) : Instr.fill splaces (scs s).toArray ((4, num32 n) :: rest) = Instr.fill splaces (scs { s with len := n }).toArray rest := by
  rw [fill_step splaces (scs s) 4 97 1 (num32 n) [num32 n] rest rfl rfl rfl (by rw [scs_len k]; omega), lay_lngth k]
theorem f_cnt (n : Nat) : Instr.fill splaces (scs s).toArray ((5, num32 n) :: rest) = Instr.fill splaces (scs { s with count := n }).toArray rest := by
  rw [fill_step splaces (scs s) 5 98 1 (num32 n) [num32 n] rest rfl rfl rfl (by rw [scs_len k]; omega), lay_cnt k]
theorem f_wn (M L : Nat) (cs : List Nat) (hc : cs.length = 4) : Instr.fill splaces (scs s).toArray ((6, .agg (Wn.wcs M L cs).toArray) :: rest) = Instr.fill splaces (scs { s with min := M, last := L, counts := cs }).toArray rest := by
  rw [fill_step splaces (scs s) 6 99 6 _ (Wn.wcs M L cs) rest rfl rfl (Wn.wcs_len hc) (by rw [scs_len k]; omega), lay_wn k M L cs hc]
theorem f_eps {a c : Dat} (ha : a.Ok) (hc : c.Ok) : Instr.fill splaces (scs s).toArray ((7, .agg (Ep.pcs a c).toArray) :: rest) = Instr.fill splaces (scs { s with now := a, next := c }).toArray rest := by
  rw [fill_step splaces (scs s) 7 105 258 _ (Ep.pcs a c) rest rfl rfl (Ep.pcs_len ha hc) (by rw [scs_len k]; omega), lay_eps k ha hc]
end
theorem shape_rsta (parts : List (Nat × Value)) : Tryz.prog.built 55 parts = Instr.fill splaces (scs zs).toArray parts := by unfold splaces; kernel_rfl
theorem built_all {s : Sta} (k : s.Ok) : Tryz.prog.built 55 [(0, .agg (u8s s.prev).toArray), (1, .agg (u8s s.led).toArray), (2, .agg (u8s s.draw).toArray), (3, num32 s.slot), (4, num32 s.len), (5, num32 s.count), (6, .agg (Wn.wcs s.min s.last s.counts).toArray), (7, .agg (Ep.pcs s.now s.next).toArray)] = some (scs s).toArray := by
  have z := zs_ok
  rw [shape_rsta, f_prev z _ k.prev, f_ledg (s := { zs with prev := s.prev }) ⟨k.prev, z.led, z.draw, z.slot, z.len, z.count, z.min, z.last, z.counts, z.clt, z.now, z.next⟩ _ k.led,
    f_drw (s := { zs with prev := s.prev, led := s.led }) ⟨k.prev, k.led, z.draw, z.slot, z.len, z.count, z.min, z.last, z.counts, z.clt, z.now, z.next⟩ _ k.draw,
    f_slt (s := { zs with prev := s.prev, led := s.led, draw := s.draw }) ⟨k.prev, k.led, k.draw, z.slot, z.len, z.count, z.min, z.last, z.counts, z.clt, z.now, z.next⟩,
    f_lngth (s := { zs with prev := s.prev, led := s.led, draw := s.draw, slot := s.slot }) ⟨k.prev, k.led, k.draw, k.slot, z.len, z.count, z.min, z.last, z.counts, z.clt, z.now, z.next⟩,
    f_cnt (s := { zs with prev := s.prev, led := s.led, draw := s.draw, slot := s.slot, len := s.len }) ⟨k.prev, k.led, k.draw, k.slot, k.len, z.count, z.min, z.last, z.counts, z.clt, z.now, z.next⟩,
    f_wn (s := { zs with prev := s.prev, led := s.led, draw := s.draw, slot := s.slot, len := s.len, count := s.count }) ⟨k.prev, k.led, k.draw, k.slot, k.len, k.count, z.min, z.last, z.counts, z.clt, z.now, z.next⟩ _ _ _ _ k.counts,
    f_eps (s := { zs with prev := s.prev, led := s.led, draw := s.draw, slot := s.slot, len := s.len, count := s.count, min := s.min, last := s.last, counts := s.counts }) ⟨k.prev, k.led, k.draw, k.slot, k.len, k.count, k.min, k.last, k.counts, k.clt, z.now, z.next⟩ _ k.now k.next, fill_done]
theorem u32s_int (l : List Nat) : ∀ v ∈ u32s l, ∃ m, v = .int .u32 m := by
  intro v hv
  unfold u32s at hv
  obtain ⟨n, _, rfl⟩ := List.mem_map.1 hv
  exact ⟨_, rfl⟩
theorem has_wmin (M L : Nat) (cs : List Nat) : Has (Wn.wcs M L cs) 0 [num32 M] := ⟨[], rcs L cs, rfl, rfl⟩
theorem has_wring (M L : Nat) (cs : List Nat) : Has (Wn.wcs M L cs) 1 (rcs L cs) := ⟨[num32 M], [], by rw [List.append_nil]; rfl, rfl⟩
theorem has_rlast (L : Nat) (cs : List Nat) : Has (rcs L cs) 0 [num32 L] := ⟨[], u32s cs, rfl, rfl⟩
theorem has_rcounts (L : Nat) (cs : List Nat) : Has (rcs L cs) 1 (u32s cs) := ⟨[num32 L], [], by rw [List.append_nil]; rfl, rfl⟩
set_option maxRecDepth 100000 in
theorem fit_ring (e : Nat) (L : Nat) {cs : List Nat} (h : cs.length = 4) : Fit Tryz.prog (e + 3) 36 (rcs L cs) := by
  refine fit_struct [(33, 0), (34, 1)] (by kernel_rfl) (by kernel_rfl) (by kernel_rfl) (n := 5) (by kernel_rfl) (rcs_len h) ?_
  have c1 : Tryz.prog.cellsOf 33 = 1 := by kernel_rfl
  have c2 : Tryz.prog.cellsOf 34 = 4 := by kernel_rfl
  intro p hp
  simp only [List.mem_cons, List.not_mem_nil, or_false] at hp
  rcases hp with rfl | rfl
  · rw [c1, (has_rlast L cs).chunk (n := 1) rfl]; exact fit_int (by kernel_rfl) _
  · rw [c2, (has_rcounts L cs).chunk (n := 4) (by rw [u32s_length, h])]; exact fit_ints (n := 4) (e := 33) (by kernel_rfl) (by kernel_rfl) (by kernel_rfl) (by rw [u32s_length, h]) (u32s_int _)
set_option maxRecDepth 100000 in
theorem fit_rring (e : Nat) (L : Nat) {cs : List Nat} (h : cs.length = 4) : Fit Tryz.prog (e + 3) 48 (rcs L cs) := by
  refine fit_struct [(33, 0), (34, 1)] (by kernel_rfl) (by kernel_rfl) (by kernel_rfl) (n := 5) (by kernel_rfl) (rcs_len h) ?_
  have c1 : Tryz.prog.cellsOf 33 = 1 := by kernel_rfl
  have c2 : Tryz.prog.cellsOf 34 = 4 := by kernel_rfl
  intro p hp
  simp only [List.mem_cons, List.not_mem_nil, or_false] at hp
  rcases hp with rfl | rfl
  · rw [c1, (has_rlast L cs).chunk (n := 1) rfl]; exact fit_int (by kernel_rfl) _
  · rw [c2, (has_rcounts L cs).chunk (n := 4) (by rw [u32s_length, h])]; exact fit_ints (n := 4) (e := 33) (by kernel_rfl) (by kernel_rfl) (by kernel_rfl) (by rw [u32s_length, h]) (u32s_int _)
set_option maxRecDepth 100000 in
theorem fit_win (e M L : Nat) {cs : List Nat} (h : cs.length = 4) : Fit Tryz.prog (e + 4) 38 (Wn.wcs M L cs) := by
  refine fit_struct [(33, 0), (36, 1)] (by kernel_rfl) (by kernel_rfl) (by kernel_rfl) (n := 6) (by kernel_rfl) (Wn.wcs_len h) ?_
  have c1 : Tryz.prog.cellsOf 33 = 1 := by kernel_rfl
  have c2 : Tryz.prog.cellsOf 36 = 5 := by kernel_rfl
  intro p hp
  simp only [List.mem_cons, List.not_mem_nil, or_false] at hp
  rcases hp with rfl | rfl
  · rw [c1, (has_wmin M L cs).chunk (n := 1) rfl]; exact fit_int (by kernel_rfl) _
  · rw [c2, (has_wring M L cs).chunk (n := 5) (rcs_len h)]; exact fit_ring e L h
set_option maxRecDepth 100000 in
theorem fit_rwin (e M L : Nat) {cs : List Nat} (h : cs.length = 4) : Fit Tryz.prog (e + 4) 50 (Wn.wcs M L cs) := by
  refine fit_struct [(33, 0), (48, 1)] (by kernel_rfl) (by kernel_rfl) (by kernel_rfl) (n := 6) (by kernel_rfl) (Wn.wcs_len h) ?_
  have c1 : Tryz.prog.cellsOf 33 = 1 := by kernel_rfl
  have c2 : Tryz.prog.cellsOf 48 = 5 := by kernel_rfl
  intro p hp
  simp only [List.mem_cons, List.not_mem_nil, or_false] at hp
  rcases hp with rfl | rfl
  · rw [c1, (has_wmin M L cs).chunk (n := 1) rfl]; exact fit_int (by kernel_rfl) _
  · rw [c2, (has_wring M L cs).chunk (n := 5) (rcs_len h)]; exact fit_rring e L h
section
variable {s : Sta} (k : s.Ok) (e : Nat)
include k
theorem h_prev : Has (scs s) 0 (u8s s.prev) := s_hash k (i := 0) (by omega) rfl
theorem h_ledg : Has (scs s) 32 (u8s s.led) := s_hash k (i := 1) (by omega) rfl
theorem h_drw : Has (scs s) 64 (u8s s.draw) := s_hash k (i := 2) (by omega) rfl
theorem h_slt : Has (scs s) 96 [num32 s.slot] := s_num k (i := 3) (by omega) rfl
theorem h_lngth : Has (scs s) 97 [num32 s.len] := s_num k (i := 4) (by omega) rfl
theorem h_cnt : Has (scs s) 98 [num32 s.count] := s_num k (i := 5) (by omega) rfl
set_option maxRecDepth 100000 in
theorem fit_sta : Fit Tryz.prog (e + 5) 44 (scs s) := by
  refine fit_struct [(32, 0), (32, 32), (32, 64), (33, 96), (33, 97), (33, 98), (38, 99), (42, 105)] (by kernel_rfl) (by kernel_rfl) (by kernel_rfl) (n := 363) (by kernel_rfl) (scs_len k) ?_
  have c1 : Tryz.prog.cellsOf 32 = 32 := by kernel_rfl
  have c2 : Tryz.prog.cellsOf 33 = 1 := by kernel_rfl
  have c3 : Tryz.prog.cellsOf 38 = 6 := by kernel_rfl
  have c4 : Tryz.prog.cellsOf 42 = 258 := by kernel_rfl
  intro p hp
  simp only [List.mem_cons, List.not_mem_nil, or_false] at hp
  rcases hp with rfl | rfl | rfl | rfl | rfl | rfl | rfl | rfl
  · rw [c1, (h_prev k).chunk (h_len k.prev)]; exact fit_hash _ k.prev
  · rw [c1, (h_ledg k).chunk (h_len k.led)]; exact fit_hash _ k.led
  · rw [c1, (h_drw k).chunk (h_len k.draw)]; exact fit_hash _ k.draw
  · rw [c2, (h_slt k).chunk (n := 1) rfl]; exact fit_int (by kernel_rfl) _
  · rw [c2, (h_lngth k).chunk (n := 1) rfl]; exact fit_int (by kernel_rfl) _
  · rw [c2, (h_cnt k).chunk (n := 1) rfl]; exact fit_int (by kernel_rfl) _
  · rw [c3, (s_win k).chunk (Wn.wcs_len k.counts)]; exact fit_win e _ _ k.counts
  · rw [c4, (s_eps k).chunk (Ep.pcs_len k.now k.next)]; exact Ep.fit_pair e k.now k.next
set_option maxRecDepth 100000 in
theorem fit_rsta : Fit Tryz.prog (e + 5) 55 (scs s) := by
  refine fit_struct [(32, 0), (32, 32), (32, 64), (33, 96), (33, 97), (33, 98), (50, 99), (53, 105)] (by kernel_rfl) (by kernel_rfl) (by kernel_rfl) (n := 363) (by kernel_rfl) (scs_len k) ?_
  have c1 : Tryz.prog.cellsOf 32 = 32 := by kernel_rfl
  have c2 : Tryz.prog.cellsOf 33 = 1 := by kernel_rfl
  have c3 : Tryz.prog.cellsOf 50 = 6 := by kernel_rfl
  have c4 : Tryz.prog.cellsOf 53 = 258 := by kernel_rfl
  intro p hp
  simp only [List.mem_cons, List.not_mem_nil, or_false] at hp
  rcases hp with rfl | rfl | rfl | rfl | rfl | rfl | rfl | rfl
  · rw [c1, (h_prev k).chunk (h_len k.prev)]; exact fit_hash _ k.prev
  · rw [c1, (h_ledg k).chunk (h_len k.led)]; exact fit_hash _ k.led
  · rw [c1, (h_drw k).chunk (h_len k.draw)]; exact fit_hash _ k.draw
  · rw [c2, (h_slt k).chunk (n := 1) rfl]; exact fit_int (by kernel_rfl) _
  · rw [c2, (h_lngth k).chunk (n := 1) rfl]; exact fit_int (by kernel_rfl) _
  · rw [c2, (h_cnt k).chunk (n := 1) rfl]; exact fit_int (by kernel_rfl) _
  · rw [c3, (s_win k).chunk (Wn.wcs_len k.counts)]; exact fit_rwin e _ _ k.counts
  · rw [c4, (s_eps k).chunk (Ep.pcs_len k.now k.next)]; exact Ep.fit_rpair e k.now k.next
end
section
variable {o : Oper} {a : Act}
set_option maxRecDepth 100000 in
theorem run_op_eqlS {s t : Sta} (k : s.Ok) (j : t.Ok) (y z : Operand) (t' : TypeId) (ho : o.op = .binOp .eql 44 y z t') (hy : a.eval y = .agg (scs s).toArray) (hz : a.eval z = .agg (scs t).toArray) (b : Bool) (hb : b = true ↔ scs s = scs t) (w : World) : (execOp a.eval o).run Tryz.prog w = .ok (.value (.bool b)) w :=
  run_op_eqlF 44 y z t' ho 5 (by omega) (.struct (Tryz.prog.fieldsOf 44)) (by kernel_rfl) rfl (by kernel_rfl) (scs s) (scs t) hy hz (fit_sta k 0) (fit_sta j 0) b hb w
set_option maxRecDepth 100000 in
theorem run_op_neqS {s t : Sta} (k : s.Ok) (j : t.Ok) (y z : Operand) (t' : TypeId) (ho : o.op = .binOp .neq 44 y z t') (hy : a.eval y = .agg (scs s).toArray) (hz : a.eval z = .agg (scs t).toArray) (b : Bool) (hb : b = true ↔ scs s = scs t) (w : World) : (execOp a.eval o).run Tryz.prog w = .ok (.value (.bool (!b))) w :=
  run_op_neqF 44 y z t' ho 5 (by omega) (.struct (Tryz.prog.fieldsOf 44)) (by kernel_rfl) rfl (by kernel_rfl) (scs s) (scs t) hy hz (fit_sta k 0) (fit_sta j 0) b hb w
end
end Go.Proofs.YtnjmocobncncdaaGreatDoor.Sa
