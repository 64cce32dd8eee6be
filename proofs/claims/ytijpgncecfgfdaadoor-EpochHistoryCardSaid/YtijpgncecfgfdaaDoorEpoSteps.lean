/-
  Steps of a history: how they lie in memory, and those that came in, opened; a step and a history's block written out; '!=' of integers behind '||'. Over this seat's translation.
-/
import Derived.Test.YtijpgncecfgfdaaDoorEpoEnts
import Derived.Test.YtijpgncecfgfdaaDoorEpoReads
import Derived.Deep.Slices
namespace Go.Proofs.YtijpgncecfgfdaaDoor.Ep
open Go.ChangeShapes Go.WideShapes Go.ChangeAt Go.RowKit Go.Proofs.YtijpgncecfgfdaaDoor.Mem Go.Proofs.YtijpgncecfgfdaaDoor.Bt Go.Proofs.YtijpgncecfgfdaaDoor.Tg
set_option linter.unusedVariables false
set_option linter.unusedSimpArgs false

/-- A step's cells: a block's but for its first. -/
def scs (b : Blk) : List Value := num32 b.to :: (u8s b.prev ++ (u8s b.led ++ u8s b.draw))
theorem bcs_scs (b : Blk) : bcs b = num32 b.fro :: scs b := rfl
theorem scs_len {b : Blk} (h : b.Ok) : (scs b).length = 97 := by
  have := bcs_len h
  rw [bcs_scs, List.length_cons] at this
  omega
theorem scs_one (b : Blk) : OneCells (scs b) := fun v hv => bcs_one b v (by rw [bcs_scs]; exact List.mem_cons_of_mem _ hv)
section
variable {cs : List Value} {o : Nat}
theorem t_by {b : Blk} (h : Has cs o (scs b)) : Has cs o [num32 b.to] := h.head
theorem t_prev {b : Blk} (h : Has cs o (scs b)) : Has cs (o + 1) (u8s b.prev) := h.tail.left
theorem t_led {b : Blk} (k : b.Ok) (h : Has cs o (scs b)) : Has cs (o + 33) (u8s b.led) := (h.tail.right 32 (h_len k.prev)).left
theorem t_draw {b : Blk} (k : b.Ok) (h : Has cs o (scs b)) : Has cs (o + 65) (u8s b.draw) := (h.tail.right 32 (h_len k.prev)).right 32 (h_len k.led)
end
theorem z_step : Mem.Zero Tryd.prog 48 (scs zb) := by unfold Mem.Zero; kernel_rfl
theorem sz_step {b : Blk} (h : b.Ok) : Sized Tryd.prog 48 (scs b).length := by rw [scs_len h]; exact ⟨.struct (Tryd.prog.fieldsOf 48), by kernel_rfl, rfl, by kernel_rfl⟩
theorem fitS {b : Blk} (k : b.Ok) : 0 + (scs b).length ≤ (scs zb).length := by rw [scs_len k, scs_len zb_ok]; omega
theorem allS {b : Blk} (k : b.Ok) : lay (scs zb) 0 (scs b) = scs b := lay_all _ _ (by rw [scs_len k, scs_len zb_ok])
theorem und_steps : Tryd.prog.underlying 45 = some (.slice 48) := by kernel_rfl
def eplaces : Nat → Option (Nat × Nat) := fun i => (#[(0, 1), (1, 97)] : Array (Nat × Nat))[i]?
theorem shape_ent (parts : List (Nat × Value)) : Tryd.prog.built 54 parts = Instr.fill eplaces (bcs zb).toArray parts := by unfold eplaces; kernel_rfl
/-- A history's block, written out. -/
theorem built_ent {b : Blk} (k : b.Ok) : Tryd.prog.built 54 [(0, num32 b.fro), (1, .agg (scs b).toArray)] = some (bcs b).toArray := by
  have e1 : lay (bcs zb) 0 [num32 b.fro] = num32 b.fro :: scs zb := by rw [bcs_scs]; exact lay_head [num32 zb.fro] (scs zb) [num32 b.fro] rfl
  have e2 : lay (num32 b.fro :: scs zb) 1 (scs b) = bcs b := by
    have := lay_skip [num32 b.fro] (scs zb) (scs b) (m := 1) 0 rfl
    rw [show lay (num32 b.fro :: scs zb) 1 (scs b) = lay ([num32 b.fro] ++ scs zb) (1 + 0) (scs b) from rfl, this, allS k]
    rfl
  rw [shape_ent, fill_step eplaces (bcs zb) 0 0 1 _ [num32 b.fro] _ rfl rfl rfl (by rw [bcs_len zb_ok]; omega), e1, fill_step eplaces _ 1 1 97 _ (scs b) _ rfl rfl (scs_len k) (by rw [List.length_cons, scs_len zb_ok]; omega), e2, fill_done]
instance : Inhabited Blk := ⟨zb⟩
/-- Steps that lie in memory. -/
structure Steps (w : World) (p : Option Addr) (l : List Blk) : Prop where
  at_ : ∀ k b, l[k]? = some b → ∃ g o, p = some ⟨g, o, none⟩ ∧ g < w.heap.size ∧ w.rangeAt g (o + k * 97) (scs b)
  ok : AllOk l
set_option maxRecDepth 100000 in
theorem c_step {d : Nat} {cs : List Value} (h : Came Tryd.prog (d + 3) 48 cs) : ∃ x : Blk, cs = scs x ∧ x.Ok := by
  obtain ⟨hl, hf⟩ := came_struct [(24, 0), (23, 1), (23, 33), (23, 65)] (n := 97) (by kernel_rfl) (by kernel_rfl) (by kernel_rfl) h
  have c1 : Tryd.prog.cellsOf 23 = 32 := by kernel_rfl
  have c2 : Tryd.prog.cellsOf 24 = 1 := by kernel_rfl
  have f1 := hf (24, 0) (by simp)
  have f2 := hf (23, 1) (by simp)
  have f3 := hf (23, 33) (by simp)
  have f4 := hf (23, 65) (by simp)
  simp only [c1, c2] at f1 f2 f3 f4
  obtain ⟨b, eb, kb⟩ := c_num f1
  obtain ⟨c, ec, kc⟩ := c_hash f2
  obtain ⟨e, ee, ke⟩ := c_hash f3
  obtain ⟨n, en, kn⟩ := c_hash f4
  refine ⟨⟨0, b, c, e, n⟩, ?_, ⟨z32, kb, kc, ke, kn⟩⟩
  have s1 := chunk_split cs 0 1 97 (by omega)
  have s2 := chunk_split cs 1 32 97 (by omega)
  have s3 := chunk_split cs 33 32 97 (by omega)
  simp only [Nat.sub_zero, Nat.zero_add, Nat.reduceSub, Nat.reduceAdd] at s1 s2 s3
  rw [← chunk_all hl, s1, s2, s3, eb, ec, ee, en]
  rfl
section
variable {H : Type} {enc : TypeId × Value → H} {w : World} {base : Nat} {spare : Nat → Bool} {held : Bool} {fuel : Nat} {cs : List Value} {x : DataW H × List MemPlace}
set_option maxRecDepth 100000 in
theorem step_of (h : DataW.trod enc Tryd.prog w base spare held fuel 48 cs = some x) : ∃ b : Blk, cs = scs b ∧ b.Ok := c_step (came_trod 3 _ _ _ _ (by kernel_rfl) h)
/-- Steps that came in. -/
theorem steps_of (h : DataW.trod enc Tryd.prog w base spare held fuel 45 cs = some x) : ∃ (P : Option Addr) (l : List Blk) (cap : Nat), cs = [.slice P l.length cap] ∧ Steps w P l ∧ l.length ≤ maxLen := by
  have c2 : Tryd.prog.cellsOf 48 = 97 := by kernel_rfl
  rcases Deep.open_slice und_steps h with ⟨rfl, _⟩ | ⟨a, len, cap, m, k, D, Pl, rfl, _, hlc, hcm, hmm, _, hV⟩
  · exact ⟨none, [], 0, rfl, ⟨fun k b h => by simp at h, fun b h => by cases h⟩, by simp⟩
  · have hlm : len ≤ m := by rw [hmm]; split <;> omega
    rw [c2] at hV
    obtain ⟨f, hf⟩ := Deep.choose_lt (α := Blk) (n := len) (p := fun i y => (∀ j, j < 97 → w.cell? ((a.add (i * 97)).add j) = (scs y)[j]?) ∧ y.Ok) (fun i hi => by
      obtain ⟨cs', h1, h2⟩ := hV i (by omega)
      obtain ⟨y, rfl, hok⟩ := step_of h2
      obtain ⟨_, _, hcell⟩ := World.cells?_some h1
      exact ⟨y, hcell, hok⟩)
    have hll : ((List.range len).map f).length = len := by simp
    have hok : AllOk ((List.range len).map f) := fun b hb => by
      obtain ⟨i, hi, rfl⟩ := List.mem_map.1 hb
      exact (hf i (List.mem_range.1 hi)).2
    refine ⟨some a, (List.range len).map f, cap, by rw [hll], ⟨fun k b hk => ?_, hok⟩, by rw [hll]; omega⟩
    have hkl : k < len := by have := (List.getElem?_eq_some_iff.1 hk).1; omega
    have hb : f k = b := by
      rw [List.getElem?_map, List.getElem?_range hkl] at hk
      exact Option.some.inj hk
    obtain ⟨hc, hko⟩ := hf k hkl
    rw [hb] at hc hko
    have hc0 : w.cell? (a.add 0) = some (num32 (f 0).to) := by
      have := (hf 0 (by omega)).1 0 (by omega)
      rw [Nat.zero_mul] at this
      have e : (a.add 0).add 0 = a.add 0 := by simp [Addr.add]
      rw [e] at this
      exact this
    have hsp := spot_none hc0
    obtain ⟨g, o, sp⟩ := a
    simp only at hsp
    subst hsp
    have hr : w.rangeAt g (o + k * 97) (scs b) := fun j v hj => by
      have hj2 := (List.getElem?_eq_some_iff.1 hj).1
      rw [scs_len hko] at hj2
      have := hc j hj2
      rw [Addr.add_mid, Addr.add_mid] at this
      rw [this]
      exact hj
    exact ⟨g, o, rfl, range_lt hr (by unfold scs; exact List.cons_ne_nil _ _), hr⟩
end
end Go.Proofs.YtijpgncecfgfdaaDoor.Ep
