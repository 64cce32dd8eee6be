/-
  Blocks of package grow as cells; how they are written out; those that came in, opened. Over this seat's translation.
-/
import Derived.Test.YtphbpndjebfacaaDoorStaMade
import Derived.Test.YtphbpndjebfacaaDoorStaReads
import Derived.Test.YtphbpndjebfacaaDoorMemAll
import Derived.Deep.Slices
namespace Go.Proofs.YtphbpndjebfacaaDoor.Gr
open Go.ChangeShapes Go.WideShapes Go.ChangeAt Go.RowKit Go.Proofs.YtphbpndjebfacaaDoor.Mem Go.Proofs.YtphbpndjebfacaaDoor.Bt Go.Proofs.YtphbpndjebfacaaDoor.Tg
open Go.Proofs.YtphbpndjebfacaaDoor.Ep (H32 zh zh_ok num32 Has h_len one_app one_num szH c_num c_hash)
set_option linter.unusedVariables false
set_option linter.unusedSimpArgs false

/-- What makes a child: a block. -/
structure Gb where
  slot : Nat
  led : List Nat
  draw : List Nat
structure Gb.Ok (b : Gb) : Prop where
  slot : b.slot < 4294967296
  led : H32 b.led
  draw : H32 b.draw
def gcs (b : Gb) : List Value := num32 b.slot :: (u8s b.led ++ u8s b.draw)
def zg : Gb := ⟨0, zh, zh⟩
theorem zg_ok : zg.Ok := ⟨(by decide : 0 < 4294967296), zh_ok, zh_ok⟩
instance : Inhabited Gb := ⟨zg⟩
def AllG (l : List Gb) : Prop := ∀ b ∈ l, b.Ok
theorem AllG.get {l : List Gb} (h : AllG l) {k : Nat} {b : Gb} (hk : l[k]? = some b) : b.Ok := h b (List.mem_of_getElem? hk)
theorem gcs_len {b : Gb} (h : b.Ok) : (gcs b).length = 65 := by unfold gcs; rw [List.length_cons, List.length_append, h_len h.led, h_len h.draw]
section
variable {cs : List Value} {o : Nat}
theorem g_slot {b : Gb} (h : Has cs o (gcs b)) : Has cs o [num32 b.slot] := h.head
theorem g_led {b : Gb} (h : Has cs o (gcs b)) : Has cs (o + 1) (u8s b.led) := h.tail.left
theorem g_draw {b : Gb} (k : b.Ok) (h : Has cs o (gcs b)) : Has cs (o + 33) (u8s b.draw) := h.tail.right 32 (h_len k.led)
end
theorem g0 (b : Gb) : Has (gcs b) 0 [num32 b.slot] := g_slot (Has.refl _)
theorem g1 (b : Gb) : Has (gcs b) 1 (u8s b.led) := g_led (Has.refl _)
theorem g33 {b : Gb} (k : b.Ok) : Has (gcs b) 33 (u8s b.draw) := g_draw k (Has.refl _)
theorem gcs_app (b : Gb) : gcs b = [num32 b.slot] ++ (u8s b.led ++ (u8s b.draw ++ [])) := by rw [List.append_nil]; rfl
theorem lay_gslot (b : Gb) (n : Nat) : lay (gcs b) 0 [num32 n] = gcs ⟨n, b.led, b.draw⟩ := by
  rw [gcs_app, lay_head [num32 b.slot] _ [num32 n] rfl, gcs_app]
theorem lay_gled {b : Gb} {x : List Nat} (k : b.Ok) (hx : H32 x) : lay (gcs b) 1 (u8s x) = gcs ⟨b.slot, x, b.draw⟩ := by
  rw [gcs_app, show (1 : Nat) = 1 + 0 from rfl, lay_skip [num32 b.slot] _ _ _ (m := 1) rfl, lay_head _ _ _ (by rw [h_len hx, h_len k.led]), gcs_app]
theorem lay_gdraw {b : Gb} {x : List Nat} (k : b.Ok) (hx : H32 x) : lay (gcs b) 33 (u8s x) = gcs ⟨b.slot, b.led, x⟩ := by
  rw [gcs_app, show (33 : Nat) = 1 + (32 + 0) from rfl, lay_skip [num32 b.slot] _ _ _ (m := 1) rfl, lay_skip _ _ _ _ (h_len k.led), lay_head _ _ _ (by rw [h_len hx, h_len k.draw]), gcs_app]
def gplaces : Nat → Option (Nat × Nat) := fun i => (#[(0, 1), (1, 32), (33, 32)] : Array (Nat × Nat))[i]?
theorem shape_gb (parts : List (Nat × Value)) : Tryd.prog.built 57 parts = Instr.fill gplaces (gcs zg).toArray parts := by unfold gplaces; kernel_rfl
theorem fg_slot {b : Gb} (k : b.Ok) (n : Nat) (rest : List (Nat × Value)) : Instr.fill gplaces (gcs b).toArray ((0, num32 n) :: rest) = Instr.fill gplaces (gcs ⟨n, b.led, b.draw⟩).toArray rest := by
  rw [fill_step gplaces (gcs b) 0 0 1 _ [num32 n] rest rfl rfl rfl (by rw [gcs_len k]; omega), lay_gslot]
theorem fg_led {b : Gb} (k : b.Ok) {x : List Nat} (hx : H32 x) (rest : List (Nat × Value)) : Instr.fill gplaces (gcs b).toArray ((1, .agg (u8s x).toArray) :: rest) = Instr.fill gplaces (gcs ⟨b.slot, x, b.draw⟩).toArray rest := by
  rw [fill_step gplaces (gcs b) 1 1 32 _ (u8s x) rest rfl rfl (h_len hx) (by rw [gcs_len k]; omega), lay_gled k hx]
theorem fg_draw {b : Gb} (k : b.Ok) {x : List Nat} (hx : H32 x) (rest : List (Nat × Value)) : Instr.fill gplaces (gcs b).toArray ((2, .agg (u8s x).toArray) :: rest) = Instr.fill gplaces (gcs ⟨b.slot, b.led, x⟩).toArray rest := by
  rw [fill_step gplaces (gcs b) 2 33 32 _ (u8s x) rest rfl rfl (h_len hx) (by rw [gcs_len k]; omega), lay_gdraw k hx]
structure Gbs (w : World) (p : Option Addr) (l : List Gb) : Prop where
  at_ : ∀ k b, l[k]? = some b → ∃ g o, p = some ⟨g, o, none⟩ ∧ g < w.heap.size ∧ w.rangeAt g (o + k * 65) (gcs b)
  ok : AllG l
theorem Gbs.below {w w' : World} {p : Option Addr} {l : List Gb} (h : Gbs w p l) (hb : Below w.heap.size w w') : Gbs w' p l :=
  ⟨fun k b hk => by
    obtain ⟨g, o, e, hg, hr⟩ := h.at_ k b hk
    exact ⟨g, o, e, Nat.lt_of_lt_of_le hg hb.size, range_block hr (hb.block g hg)⟩, h.ok⟩
section
variable {H : Type} {enc : TypeId × Value → H} {w : World} {base : Nat} {spare : Nat → Bool} {held : Bool} {fuel : Nat} {cs : List Value} {x : DataW H × List MemPlace}
end
end Go.Proofs.YtphbpndjebfacaaDoor.Gr
