/-
  Keys as cells; how they are written out, held against one another by '==', kept in slices; those that came in, opened. Over this seat's translation.
-/
import Derived.Test.YtffdmfclakgocaaDoorOrdSpec
import Derived.Test.YtffdmfclakgocaaDoorSlis
import Derived.Test.YtffdmfclakgocaaDoorEpoReads
namespace Go.Proofs.YtffdmfclakgocaaDoor.Od
open Go.ChangeShapes Go.WideShapes Go.ChangeAt Go.RowKit Go.Proofs.YtffdmfclakgocaaDoor.Mem Go.Proofs.YtffdmfclakgocaaDoor.Bt Go.Proofs.YtffdmfclakgocaaDoor.Sl
open Go.Proofs.YtffdmfclakgocaaDoor.Ep (H32 zh zh_ok num32 Has h_len one_app one_num szH c_num c_hash fit_hash)
set_option linter.unusedVariables false
set_option linter.unusedSimpArgs false

def kcs (k : Ky) : List Value := num32 k.len :: (u8s k.draw ++ u8s k.hash)
def zk : Ky := ⟨0, zh, zh⟩
theorem zk_ok : zk.Ok := ⟨(by decide : 0 < 4294967296), zh_ok, zh_ok⟩
instance : Inhabited Ky := ⟨zk⟩
theorem kcs_len {b : Ky} (h : b.Ok) : (kcs b).length = 65 := by unfold kcs; rw [List.length_cons, List.length_append, h_len h.draw, h_len h.hash]
theorem kcs_one (b : Ky) : OneCells (kcs b) := one_app (a := [num32 b.len]) (one_num _) (one_app (u8s_one _) (u8s_one _))
section
variable {cs : List Value} {o : Nat}
theorem k_len {b : Ky} (h : Has cs o (kcs b)) : Has cs o [num32 b.len] := h.head
theorem k_draw {b : Ky} (h : Has cs o (kcs b)) : Has cs (o + 1) (u8s b.draw) := h.tail.left
theorem k_hash {b : Ky} (k : b.Ok) (h : Has cs o (kcs b)) : Has cs (o + 33) (u8s b.hash) := h.tail.right 32 (h_len k.draw)
end
theorem k0 (b : Ky) : Has (kcs b) 0 [num32 b.len] := k_len (Has.refl _)
theorem k1 (b : Ky) : Has (kcs b) 1 (u8s b.draw) := k_draw (Has.refl _)
theorem k33 {b : Ky} (k : b.Ok) : Has (kcs b) 33 (u8s b.hash) := k_hash k (Has.refl _)
theorem z_key : Mem.Zero Tryd.prog 37 (kcs zk) := by unfold Mem.Zero; kernel_rfl
theorem z_rkey : Mem.Zero Tryd.prog 41 (kcs zk) := by unfold Mem.Zero; kernel_rfl
theorem sz_key {b : Ky} (h : b.Ok) : Sized Tryd.prog 37 (kcs b).length := by rw [kcs_len h]; exact ⟨.struct (Tryd.prog.fieldsOf 37), by kernel_rfl, rfl, by kernel_rfl⟩
theorem sz_rkey {b : Ky} (h : b.Ok) : Sized Tryd.prog 41 (kcs b).length := by rw [kcs_len h]; exact ⟨.struct (Tryd.prog.fieldsOf 41), by kernel_rfl, rfl, by kernel_rfl⟩
theorem fitK {b : Ky} (k : b.Ok) : 0 + (kcs b).length ≤ (kcs zk).length := by rw [kcs_len k, kcs_len zk_ok]; omega
theorem allK {b : Ky} (k : b.Ok) : lay (kcs zk) 0 (kcs b) = kcs b := lay_all _ _ (by rw [kcs_len k, kcs_len zk_ok])
theorem kcs_app (b : Ky) : kcs b = [num32 b.len] ++ (u8s b.draw ++ (u8s b.hash ++ [])) := by rw [List.append_nil]; rfl
theorem u8s_same : ∀ {x y : List Nat}, u8s x = u8s y → x = y
  | [], [], _ => rfl
  | [], b :: y, h => by cases h
  | a :: x, [], h => by cases h
  | a :: x, b :: y, h => by
    have h1 : Value.int .u8 (a : Int) = .int .u8 (b : Int) := (List.cons.inj h).1
    have h2 : u8s x = u8s y := (List.cons.inj h).2
    injection h1 with _ h1
    rw [u8s_same h2, Int.ofNat_inj.1 h1]
theorem kcs_inj {a b : Ky} (j : a.Ok) (k : b.Ok) (h : kcs a = kcs b) : a = b := by
  unfold kcs at h
  obtain ⟨h1, h2⟩ := List.cons.inj h
  obtain ⟨h3, h4⟩ := List.append_inj h2 (by rw [h_len j.draw, h_len k.draw])
  have h5 := u8s_same h3
  have h6 := u8s_same h4
  have h7 : a.len = b.len := by
    unfold Ep.num32 at h1
    injection h1 with _ h1
    exact Int.ofNat_inj.1 h1
  cases a; cases b
  simp only at h5 h6 h7
  rw [h5, h6, h7]
/-! ### Written out. -/
theorem lay_klen (b : Ky) (n : Nat) : lay (kcs b) 0 [num32 n] = kcs ⟨n, b.draw, b.hash⟩ := by
  rw [kcs_app, lay_head [num32 b.len] _ [num32 n] rfl, kcs_app]
theorem lay_kdraw {b : Ky} {x : List Nat} (k : b.Ok) (hx : H32 x) : lay (kcs b) 1 (u8s x) = kcs ⟨b.len, x, b.hash⟩ := by
  rw [kcs_app, show (1 : Nat) = 1 + 0 from rfl, lay_skip [num32 b.len] _ _ _ (m := 1) rfl, lay_head _ _ _ (by rw [h_len hx, h_len k.draw]), kcs_app]
theorem lay_khash {b : Ky} {x : List Nat} (k : b.Ok) (hx : H32 x) : lay (kcs b) 33 (u8s x) = kcs ⟨b.len, b.draw, x⟩ := by
  rw [kcs_app, show (33 : Nat) = 1 + (32 + 0) from rfl, lay_skip [num32 b.len] _ _ _ (m := 1) rfl, lay_skip _ _ _ _ (h_len k.draw), lay_head _ _ _ (by rw [h_len hx, h_len k.hash]), kcs_app]
def kplaces : Nat → Option (Nat × Nat) := fun i => (#[(0, 1), (1, 32), (33, 32)] : Array (Nat × Nat))[i]?
theorem shape_key (parts : List (Nat × Value)) : Tryd.prog.built 37 parts = Instr.fill kplaces (kcs zk).toArray parts := by unfold kplaces; kernel_rfl
theorem shape_rkey (parts : List (Nat × Value)) : Tryd.prog.built 41 parts = Instr.fill kplaces (kcs zk).toArray parts := by unfold kplaces; kernel_rfl
theorem fk_len {b : Ky} (k : b.Ok) (n : Nat) (rest : List (Nat × Value)) : Instr.fill kplaces (kcs b).toArray ((0, num32 n) :: rest) = Instr.fill kplaces (kcs ⟨n, b.draw, b.hash⟩).toArray rest := by
  rw [fill_step kplaces (kcs b) 0 0 1 _ [num32 n] rest rfl rfl rfl (by rw [kcs_len k]; omega), lay_klen]
theorem fk_draw {b : Ky} (k : b.Ok) {x : List Nat} (hx : H32 x) (rest : List (Nat × Value)) : Instr.fill kplaces (kcs b).toArray ((1, .agg (u8s x).toArray) :: rest) = Instr.fill kplaces (kcs ⟨b.len, x, b.hash⟩).toArray rest := by
  rw [fill_step kplaces (kcs b) 1 1 32 _ (u8s x) rest rfl rfl (h_len hx) (by rw [kcs_len k]; omega), lay_kdraw k hx]
theorem fk_hash {b : Ky} (k : b.Ok) {x : List Nat} (hx : H32 x) (rest : List (Nat × Value)) : Instr.fill kplaces (kcs b).toArray ((2, .agg (u8s x).toArray) :: rest) = Instr.fill kplaces (kcs ⟨b.len, b.draw, x⟩).toArray rest := by
  rw [fill_step kplaces (kcs b) 2 33 32 _ (u8s x) rest rfl rfl (h_len hx) (by rw [kcs_len k]; omega), lay_khash k hx]
theorem built_key {b : Ky} (k : b.Ok) : Tryd.prog.built 37 [(0, num32 b.len), (1, .agg (u8s b.draw).toArray), (2, .agg (u8s b.hash).toArray)] = some (kcs b).toArray := by
  rw [shape_key, fk_len zk_ok, fk_draw (b := ⟨b.len, zk.draw, zk.hash⟩) ⟨k.len, zh_ok, zh_ok⟩ k.draw, fk_hash (b := ⟨b.len, b.draw, zk.hash⟩) ⟨k.len, k.draw, zh_ok⟩ k.hash, fill_done]
theorem built_rkey {b : Ky} (k : b.Ok) : Tryd.prog.built 41 [(0, num32 b.len), (1, .agg (u8s b.draw).toArray), (2, .agg (u8s b.hash).toArray)] = some (kcs b).toArray := by
  rw [shape_rkey, fk_len zk_ok, fk_draw (b := ⟨b.len, zk.draw, zk.hash⟩) ⟨k.len, zh_ok, zh_ok⟩ k.draw, fk_hash (b := ⟨b.len, b.draw, zk.hash⟩) ⟨k.len, k.draw, zh_ok⟩ k.hash, fill_done]
/-! ### In slices. -/
abbrev kK : Kind Ky := ⟨kcs, Ky.Ok, zk, 65, 37, 38, 68⟩
theorem fK : kK.Fit Tryd.prog where
  len := fun _ k => kcs_len k
  one := kcs_one
  zok := zk_ok
  pos := (by decide : 0 < 65)
  small := (by decide : 65 ≤ 4096)
  bsmall := (by decide : 68 ≤ 65536)
  und := by kernel_rfl
  row := ⟨.struct (Tryd.prog.fieldsOf 37), by kernel_rfl, rfl⟩
  info := by kernel_rfl
abbrev kRK : Kind Ky := ⟨kcs, Ky.Ok, zk, 65, 41, 40, 68⟩
theorem fRK : kRK.Fit Tryd.prog where
  len := fun _ k => kcs_len k
  one := kcs_one
  zok := zk_ok
  pos := (by decide : 0 < 65)
  small := (by decide : 65 ≤ 4096)
  bsmall := (by decide : 68 ≤ 65536)
  und := by kernel_rfl
  row := ⟨.struct (Tryd.prog.fieldsOf 41), by kernel_rfl, rfl⟩
  info := by kernel_rfl
/-! ### '=='. -/
set_option maxRecDepth 100000 in
theorem fit_key (e : Nat) {d : Ky} (k : d.Ok) : Fit Tryd.prog (e + 3) 37 (kcs d) := by
  refine fit_struct [(24, 0), (23, 1), (23, 33)] (by kernel_rfl) (by kernel_rfl) (by kernel_rfl) (n := 65) (by kernel_rfl) (kcs_len k) ?_
  have c1 : Tryd.prog.cellsOf 23 = 32 := by kernel_rfl
  have c2 : Tryd.prog.cellsOf 24 = 1 := by kernel_rfl
  intro p hp
  simp only [List.mem_cons, List.not_mem_nil, or_false] at hp
  rcases hp with rfl | rfl | rfl
  · rw [c2, (k0 d).chunk (n := 1) rfl]; exact fit_int (by kernel_rfl) _
  · rw [c1, (k1 d).chunk (h_len k.draw)]; exact fit_hash e k.draw
  · rw [c1, (k33 k).chunk (h_len k.hash)]; exact fit_hash e k.hash
set_option maxRecDepth 100000 in
theorem fit_rkey (e : Nat) {d : Ky} (k : d.Ok) : Fit Tryd.prog (e + 3) 41 (kcs d) := by
  refine fit_struct [(24, 0), (23, 1), (23, 33)] (by kernel_rfl) (by kernel_rfl) (by kernel_rfl) (n := 65) (by kernel_rfl) (kcs_len k) ?_
  have c1 : Tryd.prog.cellsOf 23 = 32 := by kernel_rfl
  have c2 : Tryd.prog.cellsOf 24 = 1 := by kernel_rfl
  intro p hp
  simp only [List.mem_cons, List.not_mem_nil, or_false] at hp
  rcases hp with rfl | rfl | rfl
  · rw [c2, (k0 d).chunk (n := 1) rfl]; exact fit_int (by kernel_rfl) _
  · rw [c1, (k1 d).chunk (h_len k.draw)]; exact fit_hash e k.draw
  · rw [c1, (k33 k).chunk (h_len k.hash)]; exact fit_hash e k.hash
section
variable {o : Oper} {a : Act}
theorem key_iff {s t : Ky} (k : s.Ok) (j : t.Ok) {b : Bool} (h : b = true ↔ s = t) : b = true ↔ kcs s = kcs t := h.trans ⟨congrArg kcs, kcs_inj k j⟩
set_option maxRecDepth 100000 in
theorem run_op_eqlK {s t : Ky} (k : s.Ok) (j : t.Ok) (y z : Operand) (t' : TypeId) (ho : o.op = .binOp .eql 37 y z t') (hy : a.eval y = .agg (kcs s).toArray) (hz : a.eval z = .agg (kcs t).toArray) (b : Bool) (hb : b = true ↔ s = t) (w : World) : (execOp a.eval o).run Tryd.prog w = .ok (.value (.bool b)) w :=
  run_op_eqlF 37 y z t' ho 3 (by omega) (.struct (Tryd.prog.fieldsOf 37)) (by kernel_rfl) rfl (by kernel_rfl) (kcs s) (kcs t) hy hz (fit_key 0 k) (fit_key 0 j) b (key_iff k j hb) w
set_option maxRecDepth 100000 in
theorem run_op_eqlRK {s t : Ky} (k : s.Ok) (j : t.Ok) (y z : Operand) (t' : TypeId) (ho : o.op = .binOp .eql 41 y z t') (hy : a.eval y = .agg (kcs s).toArray) (hz : a.eval z = .agg (kcs t).toArray) (b : Bool) (hb : b = true ↔ s = t) (w : World) : (execOp a.eval o).run Tryd.prog w = .ok (.value (.bool b)) w :=
  run_op_eqlF 41 y z t' ho 3 (by omega) (.struct (Tryd.prog.fieldsOf 41)) (by kernel_rfl) rfl (by kernel_rfl) (kcs s) (kcs t) hy hz (fit_rkey 0 k) (fit_rkey 0 j) b (key_iff k j hb) w
set_option maxRecDepth 100000 in
/-- '!=' of two digests. -/
theorem run_op_neqH {x y : List Nat} (k : H32 x) (j : H32 y) (p q : Operand) (t' : TypeId) (ho : o.op = .binOp .neq 23 p q t') (hy : a.eval p = .agg (u8s x).toArray) (hz : a.eval q = .agg (u8s y).toArray) (b : Bool) (hb : b = true ↔ x = y) (w : World) : (execOp a.eval o).run Tryd.prog w = .ok (.value (.bool (!b))) w :=
  run_op_neqF 23 p q t' ho 2 (by omega) (.array 32 5) (by kernel_rfl) rfl (by kernel_rfl) (u8s x) (u8s y) hy hz (fit_hash 0 k) (fit_hash 0 j) b (hb.trans ⟨congrArg u8s, u8s_same⟩) w
end
/-! ### Those that came in. -/
set_option maxRecDepth 100000 in
theorem c_key {d : Nat} {cs : List Value} (h : Came Tryd.prog (d + 3) 37 cs) : ∃ x : Ky, cs = kcs x ∧ x.Ok := by
  obtain ⟨hl, hf⟩ := came_struct [(24, 0), (23, 1), (23, 33)] (n := 65) (by kernel_rfl) (by kernel_rfl) (by kernel_rfl) h
  have c1 : Tryd.prog.cellsOf 23 = 32 := by kernel_rfl
  have c2 : Tryd.prog.cellsOf 24 = 1 := by kernel_rfl
  have f1 := hf (24, 0) (by simp)
  have f2 := hf (23, 1) (by simp)
  have f3 := hf (23, 33) (by simp)
  simp only [c1, c2] at f1 f2 f3
  obtain ⟨b, eb, kb⟩ := c_num f1
  obtain ⟨c, ec, kc⟩ := c_hash f2
  obtain ⟨e, ee, ke⟩ := c_hash f3
  refine ⟨⟨b, c, e⟩, ?_, ⟨kb, kc, ke⟩⟩
  have s1 := chunk_split cs 0 1 65 (by omega)
  have s2 := chunk_split cs 1 32 65 (by omega)
  simp only [Nat.sub_zero, Nat.zero_add, Nat.reduceSub, Nat.reduceAdd] at s1 s2
  rw [← chunk_all hl, s1, s2, eb, ec, ee]
  rfl
section
variable {H : Type} {enc : TypeId × Value → H} {w : World} {base : Nat} {spare : Nat → Bool} {held : Bool} {fuel : Nat} {cs : List Value} {x : DataW H × List MemPlace}
set_option maxRecDepth 100000 in
theorem key_of (h : DataW.trod enc Tryd.prog w base spare held fuel 37 cs = some x) : ∃ b : Ky, cs = kcs b ∧ b.Ok := c_key (came_trod 3 _ _ _ _ (by kernel_rfl) h)
end
end Go.Proofs.YtffdmfclakgocaaDoor.Od
