/-
  Blocks of package grow as cells; how they are written out; those that came in, opened. Over this seat's translation.
-/
import Derived.Test.YtphbpndjebfacaaDoorStaMade
import Derived.Test.YtphbpndjebfacaaDoorStaReads
import Derived.Test.YtphbpndjebfacaaDoorMemAll
import Derived.Deep.Slices
namespace Go.Proofs.YtphbpndjebfacaaDoor.Gr
open Go.ChangeShapes Go.WideShapes Go.ChangeAt Go.RowKit Go.Proofs.YtphbpndjebfacaaDoor.Mem Go.Proofs.YtphbpndjebfacaaDoor.Bt Go.Proofs.YtphbpndjebfacaaDoor.Tg
open Go.Proofs.YtphbpndjebfacaaDoor.Ep (H32 zh zh_ok num32 Has h_len one_app one_num szH c_num c_hash)
set_option linter.unusedVariables false
set_option linter.unusedSimpArgs false

/-- What makes a child: a block. -/
structure Gb where
  slot : Nat
  led : List Nat
  draw : List Nat
structure Gb.Ok (b : Gb) : Prop where
  slot : b.slot < 4294967296
  led : H32 b.led
  draw : H32 b.draw
def gcs (b : Gb) : List Value := num32 b.slot :: (u8s b.led ++ u8s b.draw)
def zg : Gb := ⟨0, zh, zh⟩
theorem zg_ok : zg.Ok := ⟨(by decide : 0 < 4294967296), zh_ok, zh_ok⟩
instance : Inhabited Gb := ⟨zg⟩
def AllG (l : List Gb) : Prop := ∀ b ∈ l, b.Ok
theorem AllG.get {l : List Gb} (h : AllG l) {k : Nat} {b : Gb} (hk : l[k]? = some b) : b.Ok := h b (List.mem_of_getElem? hk)
theorem gcs_len {b : Gb} (h : b.Ok) : (gcs b).length = 65 := by unfold gcs; rw [List.length_cons, List.length_append, h_len h.led, h_len h.draw]
theorem gcs_one (b : Gb) : OneCells (gcs b) := one_app (a := [num32 b.slot]) (one_num _) (one_app (u8s_one _) (u8s_one _))
section
variable {cs : List Value} {o : Nat}
theorem g_slot {b : Gb} (h : Has cs o (gcs b)) : Has cs o [num32 b.slot] := h.head
theorem g_led {b : Gb} (h : Has cs o (gcs b)) : Has cs (o + 1) (u8s b.led) := h.tail.left
theorem g_draw {b : Gb} (k : b.Ok) (h : Has cs o (gcs b)) : Has cs (o + 33) (u8s b.draw) := h.tail.right 32 (h_len k.led)
end
theorem g0 (b : Gb) : Has (gcs b) 0 [num32 b.slot] := g_slot (Has.refl _)
theorem g1 (b : Gb) : Has (gcs b) 1 (u8s b.led) := g_led (Has.refl _)
theorem g33 {b : Gb} (k : b.Ok) : Has (gcs b) 33 (u8s b.draw) := g_draw k (Has.refl _)
theorem z_gb : Mem.Zero Tryd.prog 57 (gcs zg) := by unfold Mem.Zero; kernel_rfl
theorem sz_gb {b : Gb} (h : b.Ok) : Sized Tryd.prog 57 (gcs b).length := by rw [gcs_len h]; exact ⟨.struct (Tryd.prog.fieldsOf 57), by kernel_rfl, rfl, by kernel_rfl⟩
theorem sz_rgb {b : Gb} (h : b.Ok) : Sized Tryd.prog 70 (gcs b).length := by rw [gcs_len h]; exact ⟨.struct (Tryd.prog.fieldsOf 70), by kernel_rfl, rfl, by kernel_rfl⟩
theorem fitG {b : Gb} (k : b.Ok) : 0 + (gcs b).length ≤ (gcs zg).length := by rw [gcs_len k, gcs_len zg_ok]; omega
theorem allG {b : Gb} (k : b.Ok) : lay (gcs zg) 0 (gcs b) = gcs b := lay_all _ _ (by rw [gcs_len k, gcs_len zg_ok])
theorem gb_und : Tryd.prog.underlying 57 = some (.struct (Tryd.prog.fieldsOf 57)) := by kernel_rfl
theorem und_gbs : Tryd.prog.underlying 62 = some (.slice 57) := by kernel_rfl
theorem gcs_app (b : Gb) : gcs b = [num32 b.slot] ++ (u8s b.led ++ (u8s b.draw ++ [])) := by rw [List.append_nil]; rfl
theorem lay_gslot (b : Gb) (n : Nat) : lay (gcs b) 0 [num32 n] = gcs ⟨n, b.led, b.draw⟩ := by
  rw [gcs_app, lay_head [num32 b.slot] _ [num32 n] rfl, gcs_app]
theorem lay_gled {b : Gb} {x : List Nat} (k : b.Ok) (hx : H32 x) : lay (gcs b) 1 (u8s x) = gcs ⟨b.slot, x, b.draw⟩ := by
  rw [gcs_app, show (1 : Nat) = 1 + 0 from rfl, lay_skip [num32 b.slot] _ _ _ (m := 1) rfl, lay_head _ _ _ (by rw [h_len hx, h_len k.led]), gcs_app]
theorem lay_gdraw {b : Gb} {x : List Nat} (k : b.Ok) (hx : H32 x) : lay (gcs b) 33 (u8s x) = gcs ⟨b.slot, b.led, x⟩ := by
  rw [gcs_app, show (33 : Nat) = 1 + (32 + 0) from rfl, lay_skip [num32 b.slot] _ _ _ (m := 1) rfl, lay_skip _ _ _ _ (h_len k.led), lay_head _ _ _ (by rw [h_len hx, h_len k.draw]), gcs_app]
def gplaces : Nat → Option (Nat × Nat) := fun i => (#[(0, 1), (1, 32), (33, 32)] : Array (Nat × Nat))[i]?
theorem shape_gb (parts : List (Nat × Value)) : Tryd.prog.built 57 parts = Instr.fill gplaces (gcs zg).toArray parts := by unfold gplaces; kernel_rfl
theorem fg_slot {b : Gb} (k : b.Ok) (n : Nat) (rest : List (Nat × Value)) : Instr.fill gplaces (gcs b).toArray ((0, num32 n) :: rest) = Instr.fill gplaces (gcs ⟨n, b.led, b.draw⟩).toArray rest := by
  rw [fill_step gplaces (gcs b) 0 0 1 _ [num32 n] rest rfl rfl rfl (by rw [gcs_len k]; omega), lay_gslot]
theorem fg_led {b : Gb} (k : b.Ok) {x : List Nat} (hx : H32 x) (rest : List (Nat × Value)) : Instr.fill gplaces (gcs b).toArray ((1, .agg (u8s x).toArray) :: rest) = Instr.fill gplaces (gcs ⟨b.slot, x, b.draw⟩).toArray rest := by
  rw [fill_step gplaces (gcs b) 1 1 32 _ (u8s x) rest rfl rfl (h_len hx) (by rw [gcs_len k]; omega), lay_gled k hx]
theorem fg_draw {b : Gb} (k : b.Ok) {x : List Nat} (hx : H32 x) (rest : List (Nat × Value)) : Instr.fill gplaces (gcs b).toArray ((2, .agg (u8s x).toArray) :: rest) = Instr.fill gplaces (gcs ⟨b.slot, b.led, x⟩).toArray rest := by
  rw [fill_step gplaces (gcs b) 2 33 32 _ (u8s x) rest rfl rfl (h_len hx) (by rw [gcs_len k]; omega), lay_gdraw k hx]
/-- Blocks, written out. -/
theorem built_gb1 {n : Nat} : Tryd.prog.built 57 [(0, num32 n)] = some (gcs ⟨n, zh, zh⟩).toArray := by
  rw [shape_gb, fg_slot zg_ok, fill_done]; rfl
theorem built_gb2 {n : Nat} (hn : n < 4294967296) {x : List Nat} (hx : H32 x) : Tryd.prog.built 57 [(0, num32 n), (1, .agg (u8s x).toArray)] = some (gcs ⟨n, x, zh⟩).toArray := by
  rw [shape_gb, fg_slot zg_ok, fg_led (b := ⟨n, zg.led, zg.draw⟩) ⟨hn, zh_ok, zh_ok⟩ hx, fill_done]; rfl
theorem built_gb3 {n : Nat} (hn : n < 4294967296) {x : List Nat} (hx : H32 x) : Tryd.prog.built 57 [(0, num32 n), (2, .agg (u8s x).toArray)] = some (gcs ⟨n, zh, x⟩).toArray := by
  rw [shape_gb, fg_slot zg_ok, fg_draw (b := ⟨n, zg.led, zg.draw⟩) ⟨hn, zh_ok, zh_ok⟩ hx, fill_done]; rfl
/-! ### Blocks that lie in memory, and those that came in. -/
structure Gbs (w : World) (p : Option Addr) (l : List Gb) : Prop where
  at_ : ∀ k b, l[k]? = some b → ∃ g o, p = some ⟨g, o, none⟩ ∧ g < w.heap.size ∧ w.rangeAt g (o + k * 65) (gcs b)
  ok : AllG l
theorem Gbs.below {w w' : World} {p : Option Addr} {l : List Gb} (h : Gbs w p l) (hb : Below w.heap.size w w') : Gbs w' p l :=
  ⟨fun k b hk => by
    obtain ⟨g, o, e, hg, hr⟩ := h.at_ k b hk
    exact ⟨g, o, e, Nat.lt_of_lt_of_le hg hb.size, range_block hr (hb.block g hg)⟩, h.ok⟩
set_option maxRecDepth 100000 in
theorem c_gb {d : Nat} {cs : List Value} (h : Came Tryd.prog (d + 3) 57 cs) : ∃ x : Gb, cs = gcs x ∧ x.Ok := by
  obtain ⟨hl, hf⟩ := came_struct [(24, 0), (23, 1), (23, 33)] (n := 65) (by kernel_rfl) (by kernel_rfl) (by kernel_rfl) h
  have c1 : Tryd.prog.cellsOf 23 = 32 := by kernel_rfl
  have c2 : Tryd.prog.cellsOf 24 = 1 := by kernel_rfl
  have f1 := hf (24, 0) (by simp)
  have f2 := hf (23, 1) (by simp)
  have f3 := hf (23, 33) (by simp)
  simp only [c1, c2] at f1 f2 f3
  obtain ⟨b, eb, kb⟩ := c_num f1
  obtain ⟨c, ec, kc⟩ := c_hash f2
  obtain ⟨e, ee, ke⟩ := c_hash f3
  refine ⟨⟨b, c, e⟩, ?_, ⟨kb, kc, ke⟩⟩
  have s1 := chunk_split cs 0 1 65 (by omega)
  have s2 := chunk_split cs 1 32 65 (by omega)
  simp only [Nat.sub_zero, Nat.zero_add, Nat.reduceSub, Nat.reduceAdd] at s1 s2
  rw [← chunk_all hl, s1, s2, eb, ec, ee]
  rfl
section
variable {H : Type} {enc : TypeId × Value → H} {w : World} {base : Nat} {spare : Nat → Bool} {held : Bool} {fuel : Nat} {cs : List Value} {x : DataW H × List MemPlace}
set_option maxRecDepth 100000 in
theorem gb_of (h : DataW.trod enc Tryd.prog w base spare held fuel 57 cs = some x) : ∃ b : Gb, cs = gcs b ∧ b.Ok := c_gb (came_trod 3 _ _ _ _ (by kernel_rfl) h)
theorem gbs_of (h : DataW.trod enc Tryd.prog w base spare held fuel 62 cs = some x) : ∃ (P : Option Addr) (l : List Gb) (cap : Nat), cs = [.slice P l.length cap] ∧ Gbs w P l ∧ l.length ≤ maxLen := by
  have c2 : Tryd.prog.cellsOf 57 = 65 := by kernel_rfl
  rcases Deep.open_slice und_gbs h with ⟨rfl, _⟩ | ⟨a, len, cap, m, k, D, Pl, rfl, _, hlc, hcm, hmm, _, hV⟩
  · exact ⟨none, [], 0, rfl, ⟨fun k b h => by simp at h, fun b h => by cases h⟩, by simp⟩
  · have hlm : len ≤ m := by rw [hmm]; split <;> omega
    rw [c2] at hV
    obtain ⟨f, hf⟩ := Deep.choose_lt (α := Gb) (n := len) (p := fun i y => (∀ j, j < 65 → w.cell? ((a.add (i * 65)).add j) = (gcs y)[j]?) ∧ y.Ok) (fun i hi => by
      obtain ⟨cs', h1, h2⟩ := hV i (by omega)
      obtain ⟨y, rfl, hok⟩ := gb_of h2
      obtain ⟨_, _, hcell⟩ := World.cells?_some h1
      exact ⟨y, hcell, hok⟩)
    have hll : ((List.range len).map f).length = len := by simp
    have hok : AllG ((List.range len).map f) := fun b hb => by
      obtain ⟨i, hi, rfl⟩ := List.mem_map.1 hb
      exact (hf i (List.mem_range.1 hi)).2
    refine ⟨some a, (List.range len).map f, cap, by rw [hll], ⟨fun k b hk => ?_, hok⟩, by rw [hll]; omega⟩
    have hkl : k < len := by have := (List.getElem?_eq_some_iff.1 hk).1; omega
    have hb : f k = b := by
      rw [List.getElem?_map, List.getElem?_range hkl] at hk
      exact Option.some.inj hk
    obtain ⟨hc, hko⟩ := hf k hkl
    rw [hb] at hc hko
    have hc0 : w.cell? (a.add 0) = some (num32 (f 0).slot) := by
      have := (hf 0 (by omega)).1 0 (by omega)
      rw [Nat.zero_mul] at this
      have e : (a.add 0).add 0 = a.add 0 := by simp [Addr.add]
      rw [e] at this
      exact this
    have hsp := spot_none hc0
    obtain ⟨g, o, sp⟩ := a
    simp only at hsp
    subst hsp
    have hr : w.rangeAt g (o + k * 65) (gcs b) := fun j v hj => by
      have hj2 := (List.getElem?_eq_some_iff.1 hj).1
      rw [gcs_len hko] at hj2
      have := hc j hj2
      rw [Addr.add_mid, Addr.add_mid] at this
      rw [this]
      exact hj
    exact ⟨g, o, rfl, range_lt hr (by unfold gcs; exact List.cons_ne_nil _ _), hr⟩
end
end Go.Proofs.YtphbpndjebfacaaDoor.Gr
