import Derived.Test.YtffpifljeeikfaaGreatDoorStaMade
import Derived.Test.YtffpifljeeikfaaGreatDoorStaReads
import Derived.Test.YtffpifljeeikfaaGreatDoorMemAll
import Derived.Deep.Slices
import Derived.Test.YtffpifljeeikfaaGreatDoorEpoAll
import Derived.Test.YtffpifljeeikfaaGreatDoorStaLeaf
import Derived.Test.YtffpifljeeikfaaGreatDoorStaDo
import Derived.Test.YtffpifljeeikfaaGreatDoorWinAll
/-
  Blocks of package grow as cells; how they are written out; those that came in, opened. Over this seat's translation.
-/
namespace Go.Proofs.YtffpifljeeikfaaGreatDoor.Gr
open Go.ChangeShapes Go.WideShapes Go.ChangeAt Go.RowKit Go.Proofs.YtffpifljeeikfaaGreatDoor.Mem Go.Proofs.YtffpifljeeikfaaGreatDoor.Bt Go.Proofs.YtffpifljeeikfaaGreatDoor.Tg
open Go.Proofs.YtffpifljeeikfaaGreatDoor.Ep (H32 zh zh_ok num32 Has h_len one_app one_num szH c_num c_hash)
set_option linter.unusedVariables false
set_option linter.unusedSimpArgs false

/-- What makes a child: a block. -/
structure Gb where
  slot : Nat
  led : List Nat
  draw : List Nat
structure Gb.Ok (b : Gb) : Prop where
  slot : b.slot < 4294967296
  led : H32 b.led
  draw : H32 b.draw
def gcs (b : Gb) : List Value := num32 b.slot :: (u8s b.led ++ u8s b.draw)
def zg : Gb := ⟨0, zh, zh⟩
theorem zg_ok : zg.Ok := ⟨(by decide : 0 < 4294967296), zh_ok, zh_ok⟩
instance : Inhabited Gb := ⟨zg⟩
def AllG (l : List Gb) : Prop := ∀ b ∈ l, b.Ok
theorem AllG.get {l : List Gb} (h : AllG l) {k : Nat} {b : Gb} (hk : l[k]? = some b) : b.Ok := h b (List.mem_of_getElem? hk)
theorem gcs_len {b : Gb} (h : b.Ok) : (gcs b).length = 65 := by unfold gcs; rw [List.length_cons, List.length_append, h_len h.led, h_len h.draw]
theorem gcs_one (b : Gb) : OneCells (gcs b) := one_app (a := [num32 b.slot]) (one_num _) (one_app (u8s_one _) (u8s_one _))
section
variable {cs : List Value} {o : Nat}
theorem g_slot {b : Gb} (h : Has cs o (gcs b)) : Has cs o [num32 b.slot] := h.head
theorem g_led {b : Gb} (h : Has cs o (gcs b)) : Has cs (o + 1) (u8s b.led) := h.tail.left
theorem g_draw {b : Gb} (k : b.Ok) (h : Has cs o (gcs b)) : Has cs (o + 33) (u8s b.draw) := h.tail.right 32 (h_len k.led)
end
theorem g0 (b : Gb) : Has (gcs b) 0 [num32 b.slot] := g_slot (Has.refl _)
theorem g1 (b : Gb) : Has (gcs b) 1 (u8s b.led) := g_led (Has.refl _)
theorem g33 {b : Gb} (k : b.Ok) : Has (gcs b) 33 (u8s b.draw) := g_draw k (Has.refl _)
theorem z_gb : Mem.Zero Tryz.prog 64 (gcs zg) := by unfold Mem.Zero; kernel_rfl
theorem sz_gb {b : Gb} (h : b.Ok) : Sized Tryz.prog 64 (gcs b).length := by rw [gcs_len h]; exact ⟨.struct (Tryz.prog.fieldsOf 64), by kernel_rfl, rfl, by kernel_rfl⟩
theorem fitG {b : Gb} (k : b.Ok) : 0 + (gcs b).length ≤ (gcs zg).length := by rw [gcs_len k, gcs_len zg_ok]; omega
theorem allG {b : Gb} (k : b.Ok) : lay (gcs zg) 0 (gcs b) = gcs b := lay_all _ _ (by rw [gcs_len k, gcs_len zg_ok])
theorem gb_und : Tryz.prog.underlying 64 = some (.struct (Tryz.prog.fieldsOf 64)) := by kernel_rfl
theorem gcs_app (b : Gb) : gcs b = [num32 b.slot] ++ (u8s b.led ++ (u8s b.draw ++ [])) := by rw [List.append_nil]; rfl
theorem lay_gslot (b : Gb) (n : Nat) : lay (gcs b) 0 [num32 n] = gcs ⟨n, b.led, b.draw⟩ := by
  rw [gcs_app, lay_head [num32 b.slot] _ [num32 n] rfl, gcs_app]
theorem lay_gled {b : Gb} {x : List Nat} (k : b.Ok) (hx : H32 x) : lay (gcs b) 1 (u8s x) = gcs ⟨b.slot, x, b.draw⟩ := by
  rw [gcs_app, show (1 : Nat) = 1 + 0 from rfl, lay_skip [num32 b.slot] _ _ _ (m := 1) rfl, lay_head _ _ _ (by rw [h_len hx, h_len k.led]), gcs_app]
theorem lay_gdraw {b : Gb} {x : List Nat} (k : b.Ok) (hx : H32 x) : lay (gcs b) 33 (u8s x) = gcs ⟨b.slot, b.led, x⟩ := by
  rw [gcs_app, show (33 : Nat) = 1 + (32 + 0) from rfl, lay_skip [num32 b.slot] _ _ _ (m := 1) rfl, lay_skip _ _ _ _ (h_len k.led), lay_head _ _ _ (by rw [h_len hx, h_len k.draw]), gcs_app]
def gplaces : Nat → Option (Nat × Nat) := fun i => (#[(0, 1), (1, 32), (33, 32)] : Array (Nat × Nat))[i]?
theorem shape_gb (parts : List (Nat × Value)) : Tryz.prog.built 64 parts = Instr.fill gplaces (gcs zg).toArray parts := by unfold gplaces; kernel_rfl
theorem fg_slot {b : Gb} (k : b.Ok) (n : Nat) (rest : List (Nat × Value)) : Instr.fill gplaces (gcs b).toArray ((0, num32 n) :: rest) = Instr.fill gplaces (gcs ⟨n, b.led, b.draw⟩).toArray rest := by
  rw [fill_step gplaces (gcs b) 0 0 1 _ [num32 n] rest rfl rfl rfl (by rw [gcs_len k]; omega), lay_gslot]
theorem fg_led {b : Gb} (k : b.Ok) {x : List Nat} (hx : H32 x) (rest : List (Nat × Value)) : Instr.fill gplaces (gcs b).toArray ((1, .agg (u8s x).toArray) :: rest) = Instr.fill gplaces (gcs ⟨b.slot, x, b.draw⟩).toArray rest := by
  rw [fill_step gplaces (gcs b) 1 1 32 _ (u8s x) rest rfl rfl (h_len hx) (by rw [gcs_len k]; omega), lay_gled k hx]
theorem fg_draw {b : Gb} (k : b.Ok) {x : List Nat} (hx : H32 x) (rest : List (Nat × Value)) : Instr.fill gplaces (gcs b).toArray ((2, .agg (u8s x).toArray) :: rest) = Instr.fill gplaces (gcs ⟨b.slot, b.led, x⟩).toArray rest := by
  rw [fill_step gplaces (gcs b) 2 33 32 _ (u8s x) rest rfl rfl (h_len hx) (by rw [gcs_len k]; omega), lay_gdraw k hx]
/-- Blocks, written out. -/
theorem built_gb1 {n : Nat} : Tryz.prog.built 64 [(0, num32 n)] = some (gcs ⟨n, zh, zh⟩).toArray := by
  rw [shape_gb, fg_slot zg_ok, fill_done]; rfl
theorem built_gb2 {n : Nat} (hn : n < 4294967296) {x : List Nat} (hx : H32 x) : Tryz.prog.built 64 [(0, num32 n), (1, .agg (u8s x).toArray)] = some (gcs ⟨n, x, zh⟩).toArray := by
  rw [shape_gb, fg_slot zg_ok, fg_led (b := ⟨n, zg.led, zg.draw⟩) ⟨hn, zh_ok, zh_ok⟩ hx, fill_done]; rfl
theorem built_gb3 {n : Nat} (hn : n < 4294967296) {x : List Nat} (hx : H32 x) : Tryz.prog.built 64 [(0, num32 n), (2, .agg (u8s x).toArray)] = some (gcs ⟨n, zh, x⟩).toArray := by
  rw [shape_gb, fg_slot zg_ok, fg_draw (b := ⟨n, zg.led, zg.draw⟩) ⟨hn, zh_ok, zh_ok⟩ hx, fill_done]; rfl
/-! ### Blocks that lie in memory, and those that came in. -/
structure Gbs (w : World) (p : Option Addr) (l : List Gb) : Prop where
  at_ : ∀ k b, l[k]? = some b → ∃ g o, p = some ⟨g, o, none⟩ ∧ g < w.heap.size ∧ w.rangeAt g (o + k * 65) (gcs b)
  ok : AllG l
theorem Gbs.below {w w' : World} {p : Option Addr} {l : List Gb} (h : Gbs w p l) (hb : Below w.heap.size w w') : Gbs w' p l :=
  ⟨fun k b hk => by
    obtain ⟨g, o, e, hg, hr⟩ := h.at_ k b hk
    exact ⟨g, o, e, Nat.lt_of_lt_of_le hg hb.size, range_block hr (hb.block g hg)⟩, h.ok⟩
set_option maxRecDepth 100000 in
theorem c_gb {d : Nat} {cs : List Value} (h : Came Tryz.prog (d + 3) 64 cs) : ∃ x : Gb, cs = gcs x ∧ x.Ok := by
  obtain ⟨hl, hf⟩ := came_struct [(24, 0), (23, 1), (23, 33)] (n := 65) (by kernel_rfl) (by kernel_rfl) (by kernel_rfl) h
  have c1 : Tryz.prog.cellsOf 23 = 32 := by kernel_rfl
  have c2 : Tryz.prog.cellsOf 24 = 1 := by kernel_rfl
  have f1 := hf (24, 0) (by simp)
  have f2 := hf (23, 1) (by simp)
  have f3 := hf (23, 33) (by simp)
  simp only [c1, c2] at f1 f2 f3
  obtain ⟨b, eb, kb⟩ := c_num f1
  obtain ⟨c, ec, kc⟩ := c_hash f2
  obtain ⟨e, ee, ke⟩ := c_hash f3
  refine ⟨⟨b, c, e⟩, ?_, ⟨kb, kc, ke⟩⟩
  have s1 := chunk_split cs 0 1 65 (by omega)
  have s2 := chunk_split cs 1 32 65 (by omega)
  simp only [Nat.sub_zero, Nat.zero_add, Nat.reduceSub, Nat.reduceAdd] at s1 s2
  rw [← chunk_all hl, s1, s2, eb, ec, ee]
  rfl
section
variable {H : Type} {enc : TypeId × Value → H} {w : World} {base : Nat} {spare : Nat → Bool} {held : Bool} {fuel : Nat} {cs : List Value} {x : DataW H × List MemPlace}
set_option maxRecDepth 100000 in
theorem gb_of (h : DataW.trod enc Tryz.prog w base spare held fuel 64 cs = some x) : ∃ b : Gb, cs = gcs b ∧ b.Ok := c_gb (came_trod 3 _ _ _ _ (by kernel_rfl) h)
end
end Go.Proofs.YtffpifljeeikfaaGreatDoor.Gr

/-
  The contracts of package grow's small functions: sums that fit, whether an epoch comes in, whether a slot is behind, the first error. Over this seat's translation.
-/
namespace Go.Proofs.YtffpifljeeikfaaGreatDoor.Gr
open Go.ChangeShapes Go.WideShapes Go.ChangeAt Go.RowKit Go.Proofs.YtffpifljeeikfaaGreatDoor.Mem Go.Proofs.YtffpifljeeikfaaGreatDoor.Bt
open Num (in32 keep32)
set_option linter.unusedVariables false
set_option linter.unusedSimpArgs false

/-- A sum that fits, or 0; what is wrong with one that doesn't fit. -/
def addV (a b : Nat) : Nat := if a + b < 4294967296 then a + b else 0
def addE (a b : Nat) : Int := if a + b < 4294967296 then 0 else 5
theorem addV_lt (a b : Nat) : addV a b < 4294967296 := by unfold addV; split <;> omega
theorem added_any (a b : Nat) (w : World) (ha : a < 4294967296) (hb : b < 4294967296) :
    Calls Tryz.prog 30 #[.int .u32 (a : Int), .int .u32 (b : Int)] w fun e w' => e = .returned (.tuple #[.int .u32 (addV a b : Int), .int .i64 (addE a b)]) ∧ Below w.heap.size w w' := by
  have C := Slot.add32B_any (a : Int) (b : Int) w (by omega) (by omega) (by omega) (by omega)
  by_cases hf : a + b < 4294967296
  · have hi : in32 ((a : Int) + (b : Int)) = true := by unfold in32; simp; omega
    have hk : keep32 ((a : Int) + (b : Int)) = ((a + b : Nat) : Int) := by unfold keep32; rw [if_pos hi]; omega
    rw [hi, hk] at C
    rw [show addV a b = a + b from if_pos hf, show addE a b = 0 from if_pos hf]
    generalize a + b = s at C ⊢
    clear hi hk
    go_enter Tryz.func30, Tryz.ntmps30
    go_wp2_with fail
    refine C.mono ?_
    rintro e w1 ⟨rfl, g1⟩
    go_wp2
    go_ret2
    exact ⟨rfl, g1⟩
  · have hi : in32 ((a : Int) + (b : Int)) = false := by unfold in32; simp; omega
    rw [hi, Slot.keep32_no0 hi] at C
    rw [show addV a b = 0 from if_neg hf, show addE a b = 5 from if_neg hf]
    clear hi
    go_enter Tryz.func30, Tryz.ntmps30
    go_wp2_with fail
    refine C.mono ?_
    rintro e w1 ⟨rfl, g1⟩
    go_wp2
    go_ret2
    exact ⟨rfl, g1⟩
/-- How many epochs come in. -/
def entN (a b : Nat) : Nat := if a / 24 < b / 24 then 1 else 0
theorem entN_le (a b : Nat) : entN a b ≤ 1 := by unfold entN; split <;> omega
theorem entered_any (a b : Nat) (w : World) (ha : a < 4294967296) (hb : b < 4294967296) :
    Calls Tryz.prog 31 #[.int .u32 (a : Int), .int .u32 (b : Int)] w fun e w' => e = .returned (.int .u32 (entN a b : Int)) ∧ Below w.heap.size w w' := by
  have C := Slot.turnsB_any a b w ha hb
  by_cases hf : a / 24 < b / 24
  · rw [decide_eq_true hf] at C
    rw [show entN a b = 1 from if_pos hf]
    clear hf
    go_enter Tryz.func31, Tryz.ntmps31
    go_wp2_with fail
    refine C.mono ?_
    rintro e w1 ⟨rfl, g1⟩
    go_wp2
    go_ret
    exact ⟨rfl, g1⟩
  · rw [decide_eq_false hf] at C
    rw [show entN a b = 0 from if_neg hf]
    clear hf
    go_enter Tryz.func31, Tryz.ntmps31
    go_wp2_with fail
    refine C.mono ?_
    rintro e w1 ⟨rfl, g1⟩
    go_wp2
    go_ret
    exact ⟨rfl, g1⟩
/-- What is wrong with a slot that isn't behind. -/
def behE (a b : Nat) : Int := if b ≤ a then 6 else 0
theorem behind_any (a b : Nat) (w : World) (ha : a < 4294967296) (hb : b < 4294967296) :
    Calls Tryz.prog 35 #[.int .u32 (a : Int), .int .u32 (b : Int)] w fun e w' => e = .returned (.int .i64 (behE a b)) ∧ w = w' := by
  by_cases hf : b ≤ a
  · have hd : decide ((b : Int) ≤ (a : Int)) = true := decide_eq_true (by omega)
    have hd2 : decide (b ≤ a) = true := decide_eq_true hf
    rw [show behE a b = 6 from if_pos hf]
    clear hf
    go_enter Tryz.func35, Tryz.ntmps35
    go_wp2_with fail
    go_ret
    exact ⟨rfl, rfl⟩
  · have hd : decide ((b : Int) ≤ (a : Int)) = false := decide_eq_false (by omega)
    have hd2 : decide (b ≤ a) = false := decide_eq_false hf
    rw [show behE a b = 0 from if_neg hf]
    clear hf
    go_enter Tryz.func35, Tryz.ntmps35
    go_wp2_with fail
    go_ret
    exact ⟨rfl, rfl⟩
/-- The first error. -/
def firstE : List Int → Int
  | [] => 0
  | e :: l => if e = 0 then firstE l else e
theorem firstE_cases : ∀ l : List Int, (firstE l = 0 ∧ ∀ j, j < l.length → l.getD j 0 = 0) ∨ ∃ m, m < l.length ∧ (∀ j, j < m → l.getD j 0 = 0) ∧ l.getD m 0 ≠ 0 ∧ firstE l = l.getD m 0
  | [] => .inl ⟨rfl, fun j h => by simp at h⟩
  | e :: l => by
    by_cases he : e = 0
    · subst he
      rcases firstE_cases l with ⟨h1, h2⟩ | ⟨m, h1, h2, h3, h4⟩
      · refine .inl ⟨by unfold firstE; rw [if_pos rfl, h1], fun j hj => ?_⟩
        cases j with
        | zero => rfl
        | succ j => rw [List.getD_cons_succ]; exact h2 j (by simpa using hj)
      · refine .inr ⟨m + 1, by simpa using h1, fun j hj => ?_, by rw [List.getD_cons_succ]; exact h3, by unfold firstE; rw [if_pos rfl, h4, List.getD_cons_succ]⟩
        cases j with
        | zero => rfl
        | succ j => rw [List.getD_cons_succ]; exact h2 j (by omega)
    · exact .inr ⟨0, by simp, fun j hj => by omega, he, by unfold firstE; rw [if_neg he]; rfl⟩
theorem first_none (es : List Int) (B off cap : Nat) (w : World) (hlen : es.length ≤ 1000) (hc : ∀ j, j < es.length → w.cell? ⟨B, off + j, none⟩ = some (.int .i64 0)) :
    Calls Tryz.prog 34 #[.slice (some ⟨B, off, none⟩) es.length cap] w fun e w' => e = .returned (.int .i64 0) ∧ w = w' := by
  have HC := Lib.hid hc; clear hc
  go_enter Tryz.func34, Tryz.ntmps34
  go_wp2
  go_loop [7] (fun i => ∃ k : Nat, k ≤ es.length ∧ i = .int .i64 k) (fun i => es.length - (intOf i).toNat)
  case atStart => exact ⟨0, Nat.zero_le _, rfl⟩
  case round =>
    obtain ⟨k, hk, rfl⟩ := hrel
    by_cases hlt : k < es.length
    · have hcell := HC.out k hlt
      go_wp2
      go_round
      case rel => exact ⟨k + 1, by omega, by go_num⟩
      case measure => simp [intOf]; omega
    · go_wp2
      go_ret
      exact ⟨rfl, rfl⟩
theorem first_at (es : List Int) (B off cap m : Nat) (z : Int) (w : World) (hlen : es.length ≤ 1000) (hm : m < es.length) (hc : ∀ j, j < m → w.cell? ⟨B, off + j, none⟩ = some (.int .i64 0)) (hf : w.cell? ⟨B, off + m, none⟩ = some (.int .i64 z)) (hz : z ≠ 0) :
    Calls Tryz.prog 34 #[.slice (some ⟨B, off, none⟩) es.length cap] w fun e w' => e = .returned (.int .i64 z) ∧ w = w' := by
  have HC := Lib.hid hc; clear hc
  have HF := Lib.hid hf; clear hf
  have hz1 : (z == 0) = false := beq_eq_false_iff_ne.2 hz
  have hz2 : (z != 0) = true := bne_iff_ne.2 hz
  clear hz
  go_enter Tryz.func34, Tryz.ntmps34
  go_wp2
  go_loop [7] (fun i => ∃ k : Nat, k ≤ m ∧ i = .int .i64 k) (fun i => es.length - (intOf i).toNat)
  case atStart => exact ⟨0, Nat.zero_le _, rfl⟩
  case round =>
    obtain ⟨k, hk, rfl⟩ := hrel
    by_cases hlt : k < m
    · have hcell := HC.out k hlt
      go_wp2
      go_round
      case rel => exact ⟨k + 1, by omega, by go_num⟩
      case measure => simp [intOf]; omega
    · obtain rfl : k = m := by omega
      have hcell := HF.out
      go_wp2
      go_ret
      exact ⟨rfl, rfl⟩
theorem first_any (es : List Int) (B off cap : Nat) (w : World) (hlen : es.length ≤ 1000) (hc : ∀ j, j < es.length → w.cell? ⟨B, off + j, none⟩ = some (.int .i64 (es.getD j 0))) :
    Calls Tryz.prog 34 #[.slice (some ⟨B, off, none⟩) es.length cap] w fun e w' => e = .returned (.int .i64 (firstE es)) ∧ w = w' := by
  rcases firstE_cases es with ⟨h1, h2⟩ | ⟨m, h1, h2, h3, h4⟩
  · rw [h1]
    exact first_none es B off cap w hlen fun j hj => by rw [hc j hj, h2 j hj]
  · rw [h4]
    exact first_at es B off cap m _ w hlen h1 (fun j hj => by rw [hc j (by omega), h2 j hj]) (hc m h1) h3
end Go.Proofs.YtffpifljeeikfaaGreatDoor.Gr

/-
  What a child is, over numbers and lists: its errors in order, the state; a child of a state that is right is right. Over this seat's translation.
-/
namespace Go.Proofs.YtffpifljeeikfaaGreatDoor.Gr
open Go.ChangeShapes Go.WideShapes Go.ChangeAt Go.RowKit Go.Proofs.YtffpifljeeikfaaGreatDoor.Mem Go.Proofs.YtffpifljeeikfaaGreatDoor.Bt Go.Proofs.YtffpifljeeikfaaGreatDoor.Rg Go.Proofs.YtffpifljeeikfaaGreatDoor.Wn Go.Proofs.YtffpifljeeikfaaGreatDoor.Sa
open Go.Proofs.YtffpifljeeikfaaGreatDoor.Ep (H32 Dat Blk zh zh_ok num32 Has h_len one_app one_num szH ansC ansN ansE overs nowF nextF)
set_option linter.unusedVariables false
set_option linter.unusedSimpArgs false

/-- The block as package epoch is told of it. -/
def blkOf (s : Sta) (b : Gb) : Blk := ⟨s.slot, b.slot, digS s, s.led, b.draw⟩
theorem blkOf_ok {s : Sta} {b : Gb} (k : s.Ok) (j : b.Ok) : (blkOf s b).Ok := ⟨k.slot, j.slot, digS_ok s, k.led, j.draw⟩
/-- What may go wrong, in order; the first of it. -/
def errs (s : Sta) (b : Gb) : List Int := [behE s.slot b.slot, addE s.len 1, addE s.count (entN s.slot b.slot), putE s.last s.counts (b.slot / 3), ansE s.next (blkOf s b)]
def chE (s : Sta) (b : Gb) : Int := firstE (errs s b)
/-- The child, if nothing goes wrong. -/
def grown (s : Sta) (b : Gb) : Sta := ⟨digS s, b.led, b.draw, b.slot, addV s.len 1, addV s.count (entN s.slot b.slot), putM s.min s.last s.counts b.slot, putL s.last s.counts (b.slot / 3), putC s.last s.counts (b.slot / 3), ansC s.now s.next (blkOf s b), ansN s.next (blkOf s b)⟩
def chS (s : Sta) (b : Gb) : Sta := if chE s b = 0 then grown s b else zs
theorem atG_le3 {L : Nat} {cs : List Nat} {g : Int} (h : Rt L cs) : atG L cs g ≤ 3 := atG_small h.1 g
theorem putC_lt {L u : Nat} {cs : List Nat} (h : Rt L cs) : AllLt 4294967296 (putC L cs u) := by
  unfold putC
  split
  · rename_i hp
    exact fun x hx => Nat.lt_trans (small_lt (putd_small h.1 hp.2) (putd_len _ _ _) x hx) (by omega)
  · intro x hx
    simp only [List.mem_cons, List.not_mem_nil, or_false] at hx
    omega
theorem putM_le {M L s : Nat} {cs : List Nat} : putM M L cs s ≤ M := by
  unfold putM
  split
  · exact relN_le _ _ _ _
  · omega
theorem putL_le {L u : Nat} {cs : List Nat} : putL L cs u ≤ u := by unfold putL; split <;> omega
theorem grown_ok {s : Sta} {b : Gb} (k : s.Ok) (r : SRt s) (j : b.Ok) : (grown s b).Ok where
  prev := digS_ok s
  led := j.led
  draw := j.draw
  slot := j.slot
  len := addV_lt _ _
  count := addV_lt _ _
  min := Nat.lt_of_le_of_lt putM_le k.min
  last := Nat.lt_of_le_of_lt putL_le (by have := j.slot; omega)
  counts := putC_len _ _ _
  clt := putC_lt r.1.2
  now := Ep.ansC_ok k.now k.next
  next := Ep.ansN_ok k.next (blkOf_ok k j)
theorem chS_ok {s : Sta} {b : Gb} (k : s.Ok) (r : SRt s) (j : b.Ok) : (chS s b).Ok := by
  unfold chS
  split
  · exact grown_ok k r j
  · exact zs_ok
theorem firstE5 {a b c d e : Int} (h : firstE [a, b, c, d, e] = 0) : a = 0 ∧ b = 0 ∧ c = 0 ∧ d = 0 ∧ e = 0 := by
  simp only [firstE] at h
  split at h
  · split at h
    · split at h
      · split at h
        · split at h
          · rename_i h1 h2 h3 h4 h5; exact ⟨h1, h2, h3, h4, h5⟩
          · contradiction
        · contradiction
      · contradiction
    · contradiction
  · contradiction
/-- What holds where nothing goes wrong. -/
structure Fine (s : Sta) (b : Gb) : Prop where
  behind : s.slot < b.slot
  len : s.len + 1 < 4294967296
  count : s.count + entN s.slot b.slot < 4294967296
  put : s.last ≤ b.slot / 3 ∧ atG s.last s.counts ((b.slot / 3 : Nat) : Int) < 3
  follow : ¬ overs s.next (blkOf s b)
theorem chE_zero {s : Sta} {b : Gb} : chE s b = 0 ↔ Fine s b := by
  constructor
  · intro h
    obtain ⟨h1, h2, h3, h4, h5⟩ := firstE5 h
    have g1 : s.slot < b.slot := by unfold behE at h1; split at h1 <;> omega
    refine ⟨g1, ?_, ?_, ?_, ?_⟩
    · unfold addE at h2; split at h2 <;> omega
    · unfold addE at h3; split at h3 <;> omega
    · unfold putE at h4
      split at h4
      · omega
      · split at h4
        · exact ⟨by omega, by assumption⟩
        · omega
    · intro ho
      unfold ansE at h5
      rw [if_pos (show (blkOf s b).fro < (blkOf s b).to from g1), if_pos ho] at h5
      omega
  · intro h
    have e1 : behE s.slot b.slot = 0 := if_neg (by have := h.behind; omega)
    have e2 : addE s.len 1 = 0 := if_pos h.len
    have e3 : addE s.count (entN s.slot b.slot) = 0 := if_pos h.count
    have e4 : putE s.last s.counts (b.slot / 3) = 0 := by unfold putE; rw [if_neg (by have := h.put.1; omega), if_pos h.put.2]
    have e5 : ansE s.next (blkOf s b) = 0 := by unfold ansE; rw [if_pos (show (blkOf s b).fro < (blkOf s b).to from h.behind), if_neg h.follow]
    unfold chE errs
    rw [e1, e2, e3, e4, e5]
    simp [firstE]
theorem chE_kinds (s : Sta) (b : Gb) : chE s b = 0 ∨ chE s b = 6 ∨ chE s b = 5 ∨ chE s b = 11 := by
  have e1 : behE s.slot b.slot = 0 ∨ behE s.slot b.slot = 6 := by unfold behE; split <;> simp
  have e2 : ∀ x y : Nat, addE x y = 0 ∨ addE x y = 5 := fun x y => by unfold addE; split <;> simp
  have e4 : putE s.last s.counts (b.slot / 3) = 0 ∨ putE s.last s.counts (b.slot / 3) = 6 ∨ putE s.last s.counts (b.slot / 3) = 11 := by
    unfold putE
    split
    · simp
    · split <;> simp
  have e5 : ansE s.next (blkOf s b) = 0 ∨ ansE s.next (blkOf s b) = 5 ∨ ansE s.next (blkOf s b) = 6 := by
    unfold ansE
    split
    · split <;> simp
    · simp
  unfold chE errs
  rcases e1 with e1 | e1 <;> rw [e1]
  · rcases e2 s.len 1 with h2 | h2 <;> rw [h2]
    · rcases e2 s.count (entN s.slot b.slot) with h3 | h3 <;> rw [h3]
      · rcases e4 with e4 | e4 | e4 <;> rw [e4]
        · rcases e5 with e5 | e5 | e5 <;> rw [e5] <;> simp [firstE]
        · simp [firstE]
        · simp [firstE]
      · simp [firstE]
    · simp [firstE]
  · simp [firstE]
theorem chS_fine {s : Sta} {b : Gb} (h : Fine s b) : chS s b = grown s b := if_pos (chE_zero.2 h)
theorem chS_bad {s : Sta} {b : Gb} (h : chE s b ≠ 0) : chS s b = zs := if_neg h
/-- The child where nothing goes wrong, part by part. -/
theorem grown_fine {s : Sta} {b : Gb} (h : Fine s b) : grown s b = ⟨digS s, b.led, b.draw, b.slot, s.len + 1, s.count + entN s.slot b.slot, relN s.min s.last s.counts b.slot, b.slot / 3, putd s.last s.counts (b.slot / 3), nowF s.now s.next (blkOf s b), nextF s.next (blkOf s b)⟩ := by
  obtain ⟨p1, p2, p3, _, _⟩ := put_yes h.put
  obtain ⟨a1, a2, _⟩ := Ep.ans_ok (c := s.now) (show (blkOf s b).fro < (blkOf s b).to from h.behind) h.follow
  unfold grown
  rw [p1, p2, a1, a2, show addV s.len 1 = s.len + 1 from if_pos h.len, show addV s.count (entN s.slot b.slot) = s.count + entN s.slot b.slot from if_pos h.count, show putM s.min s.last s.counts b.slot = relN s.min s.last s.counts b.slot from if_pos h.put]
theorem nextF_len (d : Dat) (b : Blk) : (nextF d b).len = if b.fro / 24 < b.to / 24 then 1 else d.len + 1 := by
  unfold nextF Ep.lockd Ep.made
  by_cases ht : b.fro / 24 < b.to / 24
  · rw [if_pos ht, if_pos ht]
    split <;> rfl
  · rw [if_neg ht, if_neg ht]
    split <;> rfl
/-- A child of a state that is right is right. -/
theorem grown_right {s : Sta} {b : Gb} (r : SRt s) (h : Fine s b) : SRt (grown s b) := by
  obtain ⟨r1, r2, ⟨r3, r4⟩, r5, r6, ⟨r7, r8⟩, r9⟩ := r
  have hb := h.behind
  have hn := nextF_len s.next (blkOf s b)
  rw [grown_fine h]
  have f1 : (blkOf s b).fro = s.slot := rfl
  have f2 : (blkOf s b).to = b.slot := rfl
  rw [f1, f2] at hn
  have he : entN s.slot b.slot = if s.slot / 24 < b.slot / 24 then 1 else 0 := rfl
  refine ⟨⟨Nat.le_trans (relN_le _ _ _ _) r1.1, putd_rt r1.2.1 h.put.2⟩, rfl, ⟨?_, ?_⟩, ?_, ?_, ⟨?_, ?_⟩, ?_⟩
  · show 1 ≤ s.len + 1; omega
  · show s.len + 1 ≤ b.slot + 1; omega
  · show s.count + entN s.slot b.slot ≤ b.slot / 24
    split at he <;> omega
  · show s.count + entN s.slot b.slot < s.len + 1
    have := entN_le s.slot b.slot
    omega
  · show 1 ≤ (nextF s.next (blkOf s b)).len
    rw [hn]; split <;> omega
  · show (nextF s.next (blkOf s b)).len ≤ b.slot % 24 + 1
    rw [hn]; split <;> omega
  · show (nextF s.next (blkOf s b)).len ≤ s.len + 1
    rw [hn]; split <;> omega
theorem gen_right (x : List Nat) : SRt (genS x) := by
  refine ⟨?_, ?_, ?_, ?_, ?_, ?_, ?_⟩ <;> simp only [genS] <;> decide
/-! ### Written out. -/
theorem built_sall {s : Sta} (k : s.Ok) : Tryz.prog.built 35 [(0, .agg (u8s s.prev).toArray), (1, .agg (u8s s.led).toArray), (2, .agg (u8s s.draw).toArray), (3, num32 s.slot), (4, num32 s.len), (5, num32 s.count), (6, .agg (Wn.wcs s.min s.last s.counts).toArray), (7, .agg (Ep.pcs s.now s.next).toArray)] = some (scs s).toArray := by
  have z := zs_ok
  rw [shape_sta, f_prev z _ k.prev, f_ledg (s := { zs with prev := s.prev }) ⟨k.prev, z.led, z.draw, z.slot, z.len, z.count, z.min, z.last, z.counts, z.clt, z.now, z.next⟩ _ k.led,
    f_drw (s := { zs with prev := s.prev, led := s.led }) ⟨k.prev, k.led, z.draw, z.slot, z.len, z.count, z.min, z.last, z.counts, z.clt, z.now, z.next⟩ _ k.draw,
    f_slt (s := { zs with prev := s.prev, led := s.led, draw := s.draw }) ⟨k.prev, k.led, k.draw, z.slot, z.len, z.count, z.min, z.last, z.counts, z.clt, z.now, z.next⟩,
    f_lngth (s := { zs with prev := s.prev, led := s.led, draw := s.draw, slot := s.slot }) ⟨k.prev, k.led, k.draw, k.slot, z.len, z.count, z.min, z.last, z.counts, z.clt, z.now, z.next⟩,
    f_cnt (s := { zs with prev := s.prev, led := s.led, draw := s.draw, slot := s.slot, len := s.len }) ⟨k.prev, k.led, k.draw, k.slot, k.len, z.count, z.min, z.last, z.counts, z.clt, z.now, z.next⟩,
    f_wn (s := { zs with prev := s.prev, led := s.led, draw := s.draw, slot := s.slot, len := s.len, count := s.count }) ⟨k.prev, k.led, k.draw, k.slot, k.len, k.count, z.min, z.last, z.counts, z.clt, z.now, z.next⟩ _ _ _ _ k.counts,
    f_eps (s := { zs with prev := s.prev, led := s.led, draw := s.draw, slot := s.slot, len := s.len, count := s.count, min := s.min, last := s.last, counts := s.counts }) ⟨k.prev, k.led, k.draw, k.slot, k.len, k.count, k.min, k.last, k.counts, k.clt, z.now, z.next⟩ _ k.now k.next, fill_done]
theorem built_grown {s : Sta} {b : Gb} (k : (grown s b).Ok) : Tryz.prog.built 35 [(0, .agg (u8s (digS s)).toArray), (1, .agg (u8s b.led).toArray), (2, .agg (u8s b.draw).toArray), (3, num32 b.slot), (4, num32 (addV s.len 1)), (5, num32 (addV s.count (entN s.slot b.slot))), (6, .agg (wcs (putM s.min s.last s.counts b.slot) (putL s.last s.counts (b.slot / 3)) (putC s.last s.counts (b.slot / 3))).toArray), (7, .agg (Ep.pcs (ansC s.now s.next (blkOf s b)) (ansN s.next (blkOf s b))).toArray)] = some (scs (grown s b)).toArray := by
  have h := built_sall k
  rw [show (grown s b).prev = digS s from rfl, show (grown s b).led = b.led from rfl, show (grown s b).draw = b.draw from rfl, show (grown s b).slot = b.slot from rfl, show (grown s b).len = addV s.len 1 from rfl, show (grown s b).count = addV s.count (entN s.slot b.slot) from rfl, show (grown s b).min = putM s.min s.last s.counts b.slot from rfl, show (grown s b).last = putL s.last s.counts (b.slot / 3) from rfl, show (grown s b).counts = putC s.last s.counts (b.slot / 3) from rfl, show (grown s b).now = ansC s.now s.next (blkOf s b) from rfl, show (grown s b).next = ansN s.next (blkOf s b) from rfl] at h
  exact h
theorem built_blkOf {s : Sta} {b : Gb} (k : (blkOf s b).Ok) : Tryz.prog.built 90 [(0, num32 s.slot), (1, num32 b.slot), (2, .agg (u8s (digS s)).toArray), (3, .agg (u8s s.led).toArray), (4, .agg (u8s b.draw).toArray)] = some (Ep.bcs (blkOf s b)).toArray := by
  have h := Ep.built_blk k
  rw [show (blkOf s b).fro = s.slot from rfl, show (blkOf s b).to = b.slot from rfl, show (blkOf s b).prev = digS s from rfl, show (blkOf s b).led = s.led from rfl, show (blkOf s b).draw = b.draw from rfl] at h
  exact h
/-- '[]Errno{..}' of five. -/
theorem run_five (a b c d e : Int) (w : World) : (Instr.buildSlice 114 5 #[(0, .int .i64 a), (1, .int .i64 b), (2, .int .i64 c), (3, .int .i64 d), (4, .int .i64 e)]).run Tryz.prog w = .ok (.slice (some ⟨w.heap.size, 0, none⟩) 5 5) (w.alloc (.cells #[.int .i64 a, .int .i64 b, .int .i64 c, .int .i64 d, .int .i64 e] 60)) := by kernel_rfl
section
variable {ops : Array Oper} {rest : List Oper} {o : Oper} {a : Act} {w : World} {Q : Exit → Act → World → Prop}
theorem arm_five (hgd : o.guard = none) (x1 x2 x3 x4 x5 : Operand) (ho : o.op = .buildSlice 114 5 #[(0, x1), (1, x2), (2, x3), (3, x4), (4, x5)]) (e1 e2 e3 e4 e5 : Int) (h1 : a.eval x1 = .int .i64 e1) (h2 : a.eval x2 = .int .i64 e2) (h3 : a.eval x3 = .int .i64 e3) (h4 : a.eval x4 = .int .i64 e4) (h5 : a.eval x5 = .int .i64 e5)
    (h : ∀ b w2, Hid (b = w.heap.size) → Row w2 b 60 [.int .i64 e1, .int .i64 e2, .int .i64 e3, .int .i64 e4, .int .i64 e5] → New w w2 → wpList Tryz.prog ops Q rest (a.put o.dst (.slice (some ⟨b, 0, none⟩) 5 5)) w2) : wpList Tryz.prog ops Q (o :: rest) a w := by
  refine wpList_plain hgd fun K hK => ?_
  unfold Oper.wp execOp
  simp only [ho, List.map_toArray, List.map_cons, List.map_nil, h1, h2, h3, h4, h5, Sem.run_bind, run_five, Result.andThen_ok, Sem.run_pure]
  exact hK _ _ (h _ _ rfl (heap_alloc_new _ _) (new_alloc _ _))
end
/-- The first error of a row of five. -/
theorem first_five (e1 e2 e3 e4 e5 : Int) (B : Nat) (w : World) (hr : Row w B 60 [.int .i64 e1, .int .i64 e2, .int .i64 e3, .int .i64 e4, .int .i64 e5]) :
    Calls Tryz.prog 34 #[.slice (some ⟨B, 0, none⟩) 5 5] w fun e w' => e = .returned (.int .i64 (firstE [e1, e2, e3, e4, e5])) ∧ w = w' :=
  first_any [e1, e2, e3, e4, e5] B 0 5 w (by simp) fun j hj => by
    rw [Nat.zero_add]
    refine hr.cell ?_
    have hj' : j < 5 := hj
    obtain rfl | rfl | rfl | rfl | rfl : j = 0 ∨ j = 1 ∨ j = 2 ∨ j = 3 ∨ j = 4 := by omega
    all_goals rfl
end Go.Proofs.YtffpifljeeikfaaGreatDoor.Gr

/-
  A chain over numbers and lists: the state behind blocks, how many came, what went wrong; what a child's numbers are. Over this seat's translation.
-/
namespace Go.Proofs.YtffpifljeeikfaaGreatDoor.Gr
open Go.ChangeShapes Go.WideShapes Go.ChangeAt Go.RowKit Go.Proofs.YtffpifljeeikfaaGreatDoor.Mem Go.Proofs.YtffpifljeeikfaaGreatDoor.Bt Go.Proofs.YtffpifljeeikfaaGreatDoor.Rg Go.Proofs.YtffpifljeeikfaaGreatDoor.Wn Go.Proofs.YtffpifljeeikfaaGreatDoor.Sa
open Go.Proofs.YtffpifljeeikfaaGreatDoor.Ep (H32 Dat Blk zh zh_ok num32 Has h_len one_app one_num szH overs)
set_option linter.unusedVariables false
set_option linter.unusedSimpArgs false

def chainF (s : Sta) (n : Nat) : List Gb → Sta × Nat × Int
  | [] => (s, n, 0)
  | b :: l => if chE s b = 0 then chainF (chS s b) (n + 1) l else (s, n, chE s b)
theorem chain_step {t : Sta} {k : Nat} {l : List Gb} {b : Gb} (hk : l[k]? = some b) : chainF t k (l.drop k) = if chE t b = 0 then chainF (chS t b) (k + 1) (l.drop (k + 1)) else (t, k, chE t b) := by
  obtain ⟨h, e⟩ := List.getElem?_eq_some_iff.1 hk
  rw [List.drop_eq_getElem_cons h, e, chainF]
theorem chain_go {t : Sta} {k : Nat} {l : List Gb} {b : Gb} (hk : l[k]? = some b) (h : chE t b = 0) : chainF t k (l.drop k) = chainF (chS t b) (k + 1) (l.drop (k + 1)) := by rw [chain_step hk, if_pos h]
theorem chain_stop {t : Sta} {k : Nat} {l : List Gb} {b : Gb} (hk : l[k]? = some b) (h : chE t b ≠ 0) : chainF t k (l.drop k) = (t, k, chE t b) := by rw [chain_step hk, if_neg h]
theorem chain_end {t : Sta} {l : List Gb} : chainF t l.length (l.drop l.length) = (t, l.length, 0) := by rw [List.drop_length, chainF]
theorem chS_right {s : Sta} {b : Gb} (r : SRt s) (h : chE s b = 0) : SRt (chS s b) := by
  unfold chS
  rw [if_pos h]
  exact grown_right r (chE_zero.1 h)
/-! ### A state's numbers. -/
structure Ns where
  slot : Nat
  len : Nat
  count : Nat
  min : Nat
  last : Nat
  counts : List Nat
  nlen : Nat
def nsOf (s : Sta) : Ns := ⟨s.slot, s.len, s.count, s.min, s.last, s.counts, s.next.len⟩
def FineN (n : Ns) (t : Nat) : Prop := n.slot < t ∧ n.len + 1 < 4294967296 ∧ n.count + entN n.slot t < 4294967296 ∧ (n.last ≤ t / 3 ∧ atG n.last n.counts ((t / 3 : Nat) : Int) < 3) ∧ ¬ (¬ n.slot / 24 < t / 24 ∧ n.nlen = 4294967295)
instance (n : Ns) (t : Nat) : Decidable (FineN n t) := by unfold FineN; infer_instance
def stepN (n : Ns) (t : Nat) : Ns := ⟨t, n.len + 1, n.count + entN n.slot t, relN n.min n.last n.counts t, t / 3, putd n.last n.counts (t / 3), if n.slot / 24 < t / 24 then 1 else n.nlen + 1⟩
theorem fine_of {s : Sta} {b : Gb} (h : FineN (nsOf s) b.slot) : Fine s b := ⟨h.1, h.2.1, h.2.2.1, h.2.2.2.1, h.2.2.2.2⟩
theorem ns_step {s : Sta} {b : Gb} (h : Fine s b) : nsOf (chS s b) = stepN (nsOf s) b.slot := by
  rw [chS_fine h, grown_fine h]
  unfold nsOf stepN
  simp only
  rw [nextF_len]
  rfl
theorem chE_slot {s : Sta} {b : Gb} (h : b.slot ≤ s.slot) : chE s b = 6 := by
  unfold chE errs
  rw [show behE s.slot b.slot = 6 from if_pos h]
  simp [firstE]
end Go.Proofs.YtffpifljeeikfaaGreatDoor.Gr

/-
  The contract of package grow's Child. Over this seat's translation.
-/
namespace Go.Proofs.YtffpifljeeikfaaGreatDoor.Gr
open Go.ChangeShapes Go.WideShapes Go.ChangeAt Go.RowKit Go.Proofs.YtffpifljeeikfaaGreatDoor.Mem Go.Proofs.YtffpifljeeikfaaGreatDoor.Bt Go.Proofs.YtffpifljeeikfaaGreatDoor.Rg Go.Proofs.YtffpifljeeikfaaGreatDoor.Wn Go.Proofs.YtffpifljeeikfaaGreatDoor.Sa Go.Proofs.YtffpifljeeikfaaGreatDoor.Sha
open Go.Proofs.YtffpifljeeikfaaGreatDoor.Ep (H32 Dat Blk zh zh_ok num32 zd zd_ok Has h_len one_app one_num szH zH fitH allH ansC ansN ansE fitP allP z_pair sz_pair built_blk)
set_option linter.unusedVariables false
set_option linter.unusedSimpArgs false

set_option maxHeartbeats 4000000 in
set_option maxRecDepth 100000 in
theorem child_any (s : Sta) (b : Gb) (w : World) (ok : s.Ok) (rt : SRt s) (kb : b.Ok) (hk : w.rangeAt 0 0 (u32s ks)) :
    Calls Tryz.prog 16 #[.agg (scs s).toArray, .agg (gcs b).toArray] w fun e w' => e = .returned (.tuple #[.agg (scs (chS s b)).toArray, .int .i64 (chE s b)]) ∧ Below w.heap.size w w' := by
  have hk1 : 0 < w.heap.size := range_lt hk (by simp [u32s, ks])
  have HKW : Hid (∀ w', Below w.heap.size w w' → w'.rangeAt 0 0 (u32s ks)) := Lib.hid fun w' hb => range_block hk (hb.block _ hk1)
  have OK := Lib.hid ok; have KB := Lib.hid kb
  have CH := Lib.hid (fun w0 h => shash_any s w0 ok h)
  have CA1 := Lib.hid (fun w0 => added_any s.len 1 w0 ok.len (by omega))
  have CE := Lib.hid (fun w0 => entered_any s.slot b.slot w0 ok.slot kb.slot)
  have hen := entN_le s.slot b.slot
  have CA2 := Lib.hid (fun w0 => added_any s.count (entN s.slot b.slot) w0 ok.count (by omega))
  have CW := Lib.hid (fun w0 => wput_any s.min s.last b.slot s.counts w0 ok.min ok.last kb.slot rt.1.2 ok.counts)
  have CF := Lib.hid (fun w0 h => Ep.follow_any s.now s.next (blkOf s b) w0 ok.now ok.next (blkOf_ok ok kb) h)
  have CB := Lib.hid (fun w0 => behind_any s.slot b.slot w0 ok.slot kb.slot)
  have C1 := Lib.hid (fun w0 B (h : Row w0 B 60 [.int .i64 (behE s.slot b.slot), .int .i64 (addE s.len 1), .int .i64 (addE s.count (entN s.slot b.slot)), .int .i64 (putE s.last s.counts (b.slot / 3)), .int .i64 (ansE s.next (blkOf s b))]) => first_five _ _ _ _ _ B w0 h)
  have hE : chE s b = firstE [behE s.slot b.slot, addE s.len 1, addE s.count (entN s.slot b.slot), putE s.last s.counts (b.slot / 3), ansE s.next (blkOf s b)] := rfl
  have HS : Hid (chE s b = 0 → chS s b = grown s b) := Lib.hid fun h => if_pos h
  have HZ : Hid (chE s b ≠ 0 → chS s b = zs) := Lib.hid fun h => if_neg h
  have KG := Lib.hid (grown_ok ok rt kb)
  have BG : Hid (Tryz.prog.built 35 [(0, .agg (u8s (digS s)).toArray), (1, .agg (u8s b.led).toArray), (2, .agg (u8s b.draw).toArray), (3, num32 b.slot), (4, num32 (addV s.len 1)), (5, num32 (addV s.count (entN s.slot b.slot))), (6, .agg (wcs (putM s.min s.last s.counts b.slot) (putL s.last s.counts (b.slot / 3)) (putC s.last s.counts (b.slot / 3))).toArray), (7, .agg (Ep.pcs (ansC s.now s.next (blkOf s b)) (ansN s.next (blkOf s b))).toArray)] = some (scs (grown s b)).toArray) := Lib.hid (built_grown (grown_ok ok rt kb))
  have BB : Hid (Tryz.prog.built 90 [(0, num32 s.slot), (1, num32 b.slot), (2, .agg (u8s (digS s)).toArray), (3, .agg (u8s s.led).toArray), (4, .agg (u8s b.draw).toArray)] = some (Ep.bcs (blkOf s b)).toArray) := Lib.hid (built_blkOf (blkOf_ok ok kb))
  have KD := Lib.hid (digS_ok s)
  have KC := Lib.hid (Ep.ansC_ok (b := blkOf s b) ok.now ok.next)
  have KN := Lib.hid (Ep.ansN_ok (b := blkOf s b) ok.next (blkOf_ok ok kb))
  have HCL := Lib.hid (putC_len s.last s.counts (b.slot / 3))
  rw [← hE] at C1
  clear hE hen
  generalize chE s b = z at C1 HS HZ ⊢
  generalize chS s b = r at HS HZ ⊢
  generalize grown s b = g at HS KG BG
  generalize blkOf s b = bk at CF C1 KC KN BG BB
  generalize digS s = dg at CH BG BB KD
  generalize addV s.len 1 = lv at CA1 BG
  generalize addE s.len 1 = le at CA1 C1
  generalize addV s.count (entN s.slot b.slot) = cv at CA2 BG
  generalize addE s.count (entN s.slot b.slot) = ce at CA2 C1
  generalize entN s.slot b.slot = en at CE CA2
  generalize putM s.min s.last s.counts b.slot = pm at CW BG
  generalize putL s.last s.counts (b.slot / 3) = pl at CW BG
  generalize putC s.last s.counts (b.slot / 3) = pc at CW BG HCL
  generalize putE s.last s.counts (b.slot / 3) = pe at CW C1
  generalize ansC s.now s.next bk = ac at CF BG KC
  generalize ansN s.next bk = an at CF BG KN
  generalize ansE s.next bk = ae at CF C1
  generalize behE s.slot b.slot = be at CB C1
  clear ok rt kb hk hk1
  go_enter Tryz.func16, Tryz.ntmps16
  go_wp2_with (first
    | ((with_reducible refine at_slot 2 ?_); (refine arm_box (o := ⟨some 2, _, _, _, _, _⟩) rfl _ _ rfl (scs s) rfl ?_); intro S v1 Se hv1 nv1)
    | ((with_reducible refine at_slot 3 ?_); (refine arm_box (o := ⟨some 3, _, _, _, _, _⟩) rfl _ _ rfl (gcs b) rfl ?_); intro B v2 Be hv2 nv2)
    | ((with_reducible refine at_slot 4 ?_); (refine arm_alloc (o := ⟨some 4, _, _, _, _, _⟩) rfl _ rfl (scs zs) z_sta ?_); intro R v3 Re hv3 nv3)
    | ((with_reducible refine at_slot 16 ?_); (refine arm_load (o := ⟨some 16, _, _, _, _, _⟩) rfl _ _ rfl S 0 rfl (scs s) ((show Has (scs s) 0 (scs s) from Has.refl _).range (((hv1.old nv2.below).old nv3.below))) (sz_sta OK.out) ?_)))
  have q0 := Se.out
  have q1 := nv1.size
  have q2 := Be.out
  have q3 := nv2.size
  have q4 := Re.out
  have q5 := nv3.size
  have lS : w.heap.size ≤ S := by omega
  have lB : w.heap.size ≤ B := by omega
  have nSB : S ≠ B := by omega
  have nBS : B ≠ S := by omega
  have lR : w.heap.size ≤ R := by omega
  have nSR : S ≠ R := by omega
  have nRS : R ≠ S := by omega
  have nBR : B ≠ R := by omega
  have nRB : R ≠ B := by omega
  have rS4 : Row v3 S 35 (scs s) := ((hv1.old nv2.below).old nv3.below)
  have rB4 : Row v3 B 64 (gcs b) := (hv2.old nv3.below)
  have rR4 : Row v3 R 35 (scs zs) := hv3
  have bel4 : Below w.heap.size w v3 := (below_step (below_step (below_step (Below.refl _ _) (by omega) nv1.below) (by omega) nv2.below) (by omega) nv3.below)
  clear q0 q1 q2 q3 q4 q5 Se hv1 nv1 Be hv2 nv2 Re hv3 nv3
  refine (CH.out _ (HKW.out _ bel4)).mono ?_
  rintro e y5 ⟨rfl, hB⟩
  have rS5 : Row y5 S 35 (scs s) := rS4.old hB
  have rB5 : Row y5 B 64 (gcs b) := rB4.old hB
  have rR5 : Row y5 R 35 (scs zs) := rR4.old hB
  have bel5 : Below w.heap.size w y5 := below_step bel4 bel4.size hB
  clear hB rS4 rB4 rR4 bel4
  go_wp2_with (first
    | ((with_reducible refine at_slot 6 ?_); (refine arm_alloc (o := ⟨some 6, _, _, _, _, _⟩) rfl _ rfl (u8s zh) zH ?_); intro P v6 Pe hv6 nv6)
    | ((with_reducible refine arm_store (o := ⟨none, _, _, _, _, _⟩) rfl _ _ _ rfl P 0 rfl (u8s dg) rfl _ _ (hv6) (fitH KD.out) (u8s_one _) (szH KD.out) ?_); intro v7 hv7 ov7 sv7)
    | ((with_reducible refine at_slot 20 ?_); (refine arm_want (num32 s.len) 20 rfl (by kernel_rfl) (run_op_load1 _ _ rfl (.int .u32) (by kernel_rfl) rfl ⟨S, 97, none⟩ rfl (num32 s.len) (((rS5.old nv6.below).only ov7 (by have := rS5.lt; have := Pe.out; have := nv6.size; have := sv7.out; omega)).cell (show Has (scs s) 97 [num32 s.len] from h_lngth OK.out).get)) ?_)))
  have q0 := Pe.out
  have q1 := nv6.size
  have q2 := sv7.out
  have q3 := rS5.lt
  have q4 := rB5.lt
  have q5 := rR5.lt
  have q6 := bel5.size
  have lP : w.heap.size ≤ P := by omega
  have nSP : S ≠ P := by omega
  have nPS : P ≠ S := by omega
  have nBP : B ≠ P := by omega
  have nPB : P ≠ B := by omega
  have nRP : R ≠ P := by omega
  have nPR : P ≠ R := by omega
  have rS8 : Row v7 S 35 (scs s) := ((rS5.old nv6.below).only ov7 nSP)
  have rB8 : Row v7 B 64 (gcs b) := ((rB5.old nv6.below).only ov7 nBP)
  have rR8 : Row v7 R 35 (scs zs) := ((rR5.old nv6.below).only ov7 nRP)
  have rP8 : Row v7 P 23 (u8s dg) := (hv7.congr (allH KD.out))
  have bel8 : Below w.heap.size w v7 := (below_only (below_step bel5 (by omega) nv6.below) ov7 lP (by omega))
  clear q0 q1 q2 q3 q4 q5 q6 rS5 rB5 rR5 bel5 Pe hv6 nv6 hv7 ov7 sv7
  refine (CA1.out _).mono ?_
  rintro e y9 ⟨rfl, hB⟩
  have rS9 : Row y9 S 35 (scs s) := rS8.old hB
  have rB9 : Row y9 B 64 (gcs b) := rB8.old hB
  have rR9 : Row y9 R 35 (scs zs) := rR8.old hB
  have rP9 : Row y9 P 23 (u8s dg) := rP8.old hB
  have bel9 : Below w.heap.size w y9 := below_step bel8 bel8.size hB
  clear hB rS8 rB8 rR8 rP8 bel8
  go_wp2_with fail
  refine wp_region_held (S := fun w' => Row w' S 35 (scs s) ∧ Row w' B 64 (gcs b) ∧ True) (by kernel_rfl) ?_
  change wpAnyH _ _ _ _ _ _ _ _ y9.drew
  have rS10 : Row y9.drew S 35 (scs s) := rS9
  have rB10 : Row y9.drew B 64 (gcs b) := rB9
  have rR10 : Row y9.drew R 35 (scs zs) := rR9
  have rP10 : Row y9.drew P 23 (u8s dg) := rP9
  have bel10 : Below w.heap.size w y9.drew := bel9.trans ((Below.refl _ _).drew)
  clear rS9 rB9 rR9 rP9 bel9
  generalize y9.drew = y10 at rS10 rB10 rR10 rP10 bel10 ⊢
  refine h_take 0 (.pointer (some ⟨S, 98, none⟩)) rfl 25 rfl (by kernel_rfl) (by kernel_rfl) (by kernel_rfl) (by kernel_rfl) (fun _ _ _ h => h) (fun w' _ => by kernel_rfl) ⟨rS10, rB10, trivial⟩ ?_
  simp only [Act.put, List.setIfInBounds_toArray, List.set_cons_zero, List.set_cons_succ]
  refine h_take 1 (num32 s.count) rfl 26 rfl (by kernel_rfl) (by kernel_rfl) (by kernel_rfl) (by kernel_rfl) (fun _ _ _ h => h) (fun w' hw => run_op_load1 _ _ rfl (.int .u32) (by kernel_rfl) rfl ⟨S, 98, none⟩ rfl (num32 s.count) (hw.1.cell (show Has (scs s) 98 [num32 s.count] from h_cnt OK.out).get)) ⟨rS10, rB10, trivial⟩ ?_
  simp only [Act.put, List.setIfInBounds_toArray, List.set_cons_zero, List.set_cons_succ]
  refine h_take 2 (.pointer (some ⟨S, 96, none⟩)) rfl 27 rfl (by kernel_rfl) (by kernel_rfl) (by kernel_rfl) (by kernel_rfl) (fun _ _ _ h => h) (fun w' _ => by kernel_rfl) ⟨rS10, rB10, trivial⟩ ?_
  simp only [Act.put, List.setIfInBounds_toArray, List.set_cons_zero, List.set_cons_succ]
  refine h_take 3 (num32 s.slot) rfl 28 rfl (by kernel_rfl) (by kernel_rfl) (by kernel_rfl) (by kernel_rfl) (fun _ _ _ h => h) (fun w' hw => run_op_load1 _ _ rfl (.int .u32) (by kernel_rfl) rfl ⟨S, 96, none⟩ rfl (num32 s.slot) (hw.1.cell (show Has (scs s) 96 [num32 s.slot] from h_slt OK.out).get)) ⟨rS10, rB10, trivial⟩ ?_
  simp only [Act.put, List.setIfInBounds_toArray, List.set_cons_zero, List.set_cons_succ]
  refine h_take 4 (.pointer (some ⟨B, 0, none⟩)) rfl 29 rfl (by kernel_rfl) (by kernel_rfl) (by kernel_rfl) (by kernel_rfl) (fun _ _ _ h => h) (fun w' _ => by kernel_rfl) ⟨rS10, rB10, trivial⟩ ?_
  simp only [Act.put, List.setIfInBounds_toArray, List.set_cons_zero, List.set_cons_succ]
  refine h_take 5 (num32 b.slot) rfl 30 rfl (by kernel_rfl) (by kernel_rfl) (by kernel_rfl) (by kernel_rfl) (fun _ _ _ h => h) (fun w' hw => run_op_load1 _ _ rfl (.int .u32) (by kernel_rfl) rfl ⟨B, 0, none⟩ rfl (num32 b.slot) (hw.2.1.cell (show Has (gcs b) 0 [num32 b.slot] from g0 b).get)) ⟨rS10, rB10, trivial⟩ ?_
  simp only [Act.put, List.setIfInBounds_toArray, List.set_cons_zero, List.set_cons_succ]
  refine h_one (i := 6) (by kernel_rfl) (o_call rfl 31 rfl (by kernel_rfl) (run_op_call 31 _ _ rfl #[.int .u32 (s.slot : Int), .int .u32 (b.slot : Int)] (by simp only [List.map_toArray, List.map_cons, List.map_nil]; rfl) Tryz.func31 (by kernel_rfl) (by kernel_rfl) _) (CE.out y10) ?_)
  rintro e y11 ⟨rfl, hB⟩
  have rS11 : Row y11 S 35 (scs s) := rS10.old hB
  have rB11 : Row y11 B 64 (gcs b) := rB10.old hB
  have rR11 : Row y11 R 35 (scs zs) := rR10.old hB
  have rP11 : Row y11 P 23 (u8s dg) := rP10.old hB
  have bel11 : Below w.heap.size w y11 := below_step bel10 bel10.size hB
  clear hB rS10 rB10 rR10 rP10 bel10
  refine ⟨_, rfl, ⟨rS11, rB11, trivial⟩, ?_⟩
  simp only [Act.put, List.setIfInBounds_toArray, List.set_cons_zero, List.set_cons_succ]
  refine h_one (i := 7) (by kernel_rfl) (o_call rfl 32 rfl (by kernel_rfl) (run_op_call 30 _ _ rfl #[.int .u32 (s.count : Int), .int .u32 (en : Int)] (by simp only [List.map_toArray, List.map_cons, List.map_nil]; rfl) Tryz.func30 (by kernel_rfl) (by kernel_rfl) _) (CA2.out y11) ?_)
  rintro e y12 ⟨rfl, hB⟩
  have rS12 : Row y12 S 35 (scs s) := rS11.old hB
  have rB12 : Row y12 B 64 (gcs b) := rB11.old hB
  have rR12 : Row y12 R 35 (scs zs) := rR11.old hB
  have rP12 : Row y12 P 23 (u8s dg) := rP11.old hB
  have bel12 : Below w.heap.size w y12 := below_step bel11 bel11.size hB
  clear hB rS11 rB11 rR11 rP11 bel11
  refine ⟨_, rfl, ⟨rS12, rB12, trivial⟩, ?_⟩
  simp only [Act.put, List.setIfInBounds_toArray, List.set_cons_zero, List.set_cons_succ]
  refine h_take 8 (.tuple #[.int .u32 (cv : Int), .int .i64 ce]) rfl 24 rfl (by kernel_rfl) (by kernel_rfl) (by kernel_rfl) (by kernel_rfl) (fun _ _ _ h => h) (fun w' _ => by kernel_rfl) ⟨rS12, rB12, trivial⟩ ?_
  simp only [Act.put, List.setIfInBounds_toArray, List.set_cons_zero, List.set_cons_succ]
  refine h_take 9 (.int .u32 (cv : Int)) rfl 33 rfl (by kernel_rfl) (by kernel_rfl) (by kernel_rfl) (by kernel_rfl) (fun _ _ _ h => h) (fun w' _ => by kernel_rfl) ⟨rS12, rB12, trivial⟩ ?_
  simp only [Act.put, List.setIfInBounds_toArray, List.set_cons_zero, List.set_cons_succ]
  refine h_take 10 (.int .i64 ce) rfl 34 rfl (by kernel_rfl) (by kernel_rfl) (by kernel_rfl) (by kernel_rfl) (fun _ _ _ h => h) (fun w' _ => by kernel_rfl) ⟨rS12, rB12, trivial⟩ ?_
  simp only [Act.put, List.setIfInBounds_toArray, List.set_cons_zero, List.set_cons_succ]
  refine h_take 11 (.int .u32 (cv : Int)) rfl 9 rfl (by kernel_rfl) (by kernel_rfl) (by kernel_rfl) (by kernel_rfl) (fun _ _ _ h => h) (fun w' _ => by kernel_rfl) ⟨rS12, rB12, trivial⟩ ?_
  simp only [Act.put, List.setIfInBounds_toArray, List.set_cons_zero, List.set_cons_succ]
  refine h_take 12 (.int .i64 ce) rfl 10 rfl (by kernel_rfl) (by kernel_rfl) (by kernel_rfl) (by kernel_rfl) (fun _ _ _ h => h) (fun w' _ => by kernel_rfl) ⟨rS12, rB12, trivial⟩ ?_
  simp only [Act.put, List.setIfInBounds_toArray, List.set_cons_zero, List.set_cons_succ]
  refine wpAnyH_done (by kernel_rfl) ?_ _
  go_wp2_with (first
    | ((with_reducible refine at_slot 37 ?_); (refine arm_load (o := ⟨some 37, _, _, _, _, _⟩) rfl _ _ rfl S 99 rfl (Wn.wcs s.min s.last s.counts) ((show Has (scs s) 99 (Wn.wcs s.min s.last s.counts) from s_win OK.out).range (rS12)) (sz_win OK.out.counts) ?_))
    | ((with_reducible refine at_slot 39 ?_); (refine arm_want (num32 b.slot) 39 rfl (by kernel_rfl) (run_op_load1 _ _ rfl (.int .u32) (by kernel_rfl) rfl ⟨B, 0, none⟩ rfl (num32 b.slot) (rB12.cell (show Has (gcs b) 0 [num32 b.slot] from g0 b).get)) ?_)))
  refine (CW.out _).mono ?_
  rintro e y13 ⟨rfl, hB⟩
  have rS13 : Row y13 S 35 (scs s) := rS12.old hB
  have rB13 : Row y13 B 64 (gcs b) := rB12.old hB
  have rR13 : Row y13 R 35 (scs zs) := rR12.old hB
  have rP13 : Row y13 P 23 (u8s dg) := rP12.old hB
  have bel13 : Below w.heap.size w y13 := below_step bel12 bel12.size hB
  clear hB rS12 rB12 rR12 rP12 bel12
  go_wp2_with (first
    | ((with_reducible refine at_slot 11 ?_); (refine arm_alloc (o := ⟨some 11, _, _, _, _, _⟩) rfl _ rfl (wcs 0 0 [0, 0, 0, 0]) z_win ?_); intro V v14 Ve hv14 nv14)
    | ((with_reducible refine arm_store (o := ⟨none, _, _, _, _, _⟩) rfl _ _ _ rfl V 0 rfl (wcs pm pl pc) rfl _ _ (hv14) (fit6 HCL.out) (wcs_one _ _ _) (sz_win HCL.out) ?_); intro v15 hv15 ov15 sv15)
    | ((with_reducible refine at_slot 45 ?_); (refine arm_load (o := ⟨some 45, _, _, _, _, _⟩) rfl _ _ rfl S 105 rfl (Ep.pcs s.now s.next) ((show Has (scs s) 105 (Ep.pcs s.now s.next) from s_eps OK.out).range (((rS13.old nv14.below).only ov15 (by have := rS13.lt; have := Ve.out; have := nv14.size; have := sv15.out; omega)))) (sz_pair OK.out.now OK.out.next) ?_))
    | ((with_reducible refine at_slot 47 ?_); (refine arm_want (num32 s.slot) 47 rfl (by kernel_rfl) (run_op_load1 _ _ rfl (.int .u32) (by kernel_rfl) rfl ⟨S, 96, none⟩ rfl (num32 s.slot) (((rS13.old nv14.below).only ov15 (by have := rS13.lt; have := Ve.out; have := nv14.size; have := sv15.out; omega)).cell (show Has (scs s) 96 [num32 s.slot] from h_slt OK.out).get)) ?_))
    | ((with_reducible refine at_slot 49 ?_); (refine arm_want (num32 b.slot) 49 rfl (by kernel_rfl) (run_op_load1 _ _ rfl (.int .u32) (by kernel_rfl) rfl ⟨B, 0, none⟩ rfl (num32 b.slot) (((rB13.old nv14.below).only ov15 (by have := rB13.lt; have := Ve.out; have := nv14.size; have := sv15.out; omega)).cell (show Has (gcs b) 0 [num32 b.slot] from g0 b).get)) ?_))
    | ((with_reducible refine at_slot 50 ?_); (refine arm_load (o := ⟨some 50, _, _, _, _, _⟩) rfl _ _ rfl P 0 rfl (u8s dg) ((show Has (u8s dg) 0 (u8s dg) from Has.refl _).range (((rP13.old nv14.below).only ov15 (by have := rP13.lt; have := Ve.out; have := nv14.size; have := sv15.out; omega)))) (szH KD.out) ?_))
    | ((with_reducible refine at_slot 52 ?_); (refine arm_load (o := ⟨some 52, _, _, _, _, _⟩) rfl _ _ rfl S 32 rfl (u8s s.led) ((show Has (scs s) 32 (u8s s.led) from h_ledg OK.out).range (((rS13.old nv14.below).only ov15 (by have := rS13.lt; have := Ve.out; have := nv14.size; have := sv15.out; omega)))) (szH OK.out.led) ?_))
    | ((with_reducible refine at_slot 54 ?_); (refine arm_load (o := ⟨some 54, _, _, _, _, _⟩) rfl _ _ rfl B 33 rfl (u8s b.draw) ((show Has (gcs b) 33 (u8s b.draw) from g33 KB.out).range (((rB13.old nv14.below).only ov15 (by have := rB13.lt; have := Ve.out; have := nv14.size; have := sv15.out; omega)))) (szH KB.out.draw) ?_))
    | ((with_reducible refine at_slot 55 ?_); (refine arm_build (o := ⟨some 55, _, _, _, _, _⟩) rfl _ _ rfl (Ep.bcs bk) (by simp only [List.map_toArray, List.map_cons, List.map_nil]; exact BB.out) ?_)))
  have q0 := Ve.out
  have q1 := nv14.size
  have q2 := sv15.out
  have q3 := rS13.lt
  have q4 := rB13.lt
  have q5 := rR13.lt
  have q6 := rP13.lt
  have q7 := bel13.size
  have lV : w.heap.size ≤ V := by omega
  have nSV : S ≠ V := by omega
  have nVS : V ≠ S := by omega
  have nBV : B ≠ V := by omega
  have nVB : V ≠ B := by omega
  have nRV : R ≠ V := by omega
  have nVR : V ≠ R := by omega
  have nPV : P ≠ V := by omega
  have nVP : V ≠ P := by omega
  have rS16 : Row v15 S 35 (scs s) := ((rS13.old nv14.below).only ov15 nSV)
  have rB16 : Row v15 B 64 (gcs b) := ((rB13.old nv14.below).only ov15 nBV)
  have rR16 : Row v15 R 35 (scs zs) := ((rR13.old nv14.below).only ov15 nRV)
  have rP16 : Row v15 P 23 (u8s dg) := ((rP13.old nv14.below).only ov15 nPV)
  have rV16 : Row v15 V 29 (wcs pm pl pc) := (hv15.congr (lay_all _ _ (len6 HCL.out)))
  have bel16 : Below w.heap.size w v15 := (below_only (below_step bel13 (by omega) nv14.below) ov15 lV (by omega))
  clear q0 q1 q2 q3 q4 q5 q6 q7 rS13 rB13 rR13 rP13 bel13 Ve hv14 nv14 hv15 ov15 sv15
  refine (CF.out _ (HKW.out _ bel16)).mono ?_
  rintro e y17 ⟨rfl, hB⟩
  have rS17 : Row y17 S 35 (scs s) := rS16.old hB
  have rB17 : Row y17 B 64 (gcs b) := rB16.old hB
  have rR17 : Row y17 R 35 (scs zs) := rR16.old hB
  have rP17 : Row y17 P 23 (u8s dg) := rP16.old hB
  have rV17 : Row y17 V 29 (wcs pm pl pc) := rV16.old hB
  have bel17 : Below w.heap.size w y17 := below_step bel16 bel16.size hB
  clear hB rS16 rB16 rR16 rP16 rV16 bel16
  go_wp2_with (first
    | ((with_reducible refine at_slot 13 ?_); (refine arm_alloc (o := ⟨some 13, _, _, _, _, _⟩) rfl _ rfl (Ep.pcs zd zd) z_pair ?_); intro E v18 Ee hv18 nv18)
    | ((with_reducible refine arm_store (o := ⟨none, _, _, _, _, _⟩) rfl _ _ _ rfl E 0 rfl (Ep.pcs ac an) rfl _ _ (hv18) (fitP KC.out KN.out) (Ep.pcs_one _ _) (sz_pair KC.out KN.out) ?_); intro v19 hv19 ov19 sv19)
    | ((with_reducible refine at_slot 60 ?_); (refine arm_want (num32 s.slot) 60 rfl (by kernel_rfl) (run_op_load1 _ _ rfl (.int .u32) (by kernel_rfl) rfl ⟨S, 96, none⟩ rfl (num32 s.slot) (((rS17.old nv18.below).only ov19 (by have := rS17.lt; have := Ee.out; have := nv18.size; have := sv19.out; omega)).cell (show Has (scs s) 96 [num32 s.slot] from h_slt OK.out).get)) ?_))
    | ((with_reducible refine at_slot 62 ?_); (refine arm_want (num32 b.slot) 62 rfl (by kernel_rfl) (run_op_load1 _ _ rfl (.int .u32) (by kernel_rfl) rfl ⟨B, 0, none⟩ rfl (num32 b.slot) (((rB17.old nv18.below).only ov19 (by have := rB17.lt; have := Ee.out; have := nv18.size; have := sv19.out; omega)).cell (show Has (gcs b) 0 [num32 b.slot] from g0 b).get)) ?_)))
  have q0 := Ee.out
  have q1 := nv18.size
  have q2 := sv19.out
  have q3 := rS17.lt
  have q4 := rB17.lt
  have q5 := rR17.lt
  have q6 := rP17.lt
  have q7 := rV17.lt
  have q8 := bel17.size
  have lE : w.heap.size ≤ E := by omega
  have nSE : S ≠ E := by omega
  have nES : E ≠ S := by omega
  have nBE : B ≠ E := by omega
  have nEB : E ≠ B := by omega
  have nRE : R ≠ E := by omega
  have nER : E ≠ R := by omega
  have nPE : P ≠ E := by omega
  have nEP : E ≠ P := by omega
  have nVE : V ≠ E := by omega
  have nEV : E ≠ V := by omega
  have rS20 : Row v19 S 35 (scs s) := ((rS17.old nv18.below).only ov19 nSE)
  have rB20 : Row v19 B 64 (gcs b) := ((rB17.old nv18.below).only ov19 nBE)
  have rR20 : Row v19 R 35 (scs zs) := ((rR17.old nv18.below).only ov19 nRE)
  have rP20 : Row v19 P 23 (u8s dg) := ((rP17.old nv18.below).only ov19 nPE)
  have rV20 : Row v19 V 29 (wcs pm pl pc) := ((rV17.old nv18.below).only ov19 nVE)
  have rE20 : Row v19 E 33 (Ep.pcs ac an) := (hv19.congr (allP KC.out KN.out))
  have bel20 : Below w.heap.size w v19 := (below_only (below_step bel17 (by omega) nv18.below) ov19 lE (by omega))
  clear q0 q1 q2 q3 q4 q5 q6 q7 q8 rS17 rB17 rR17 rP17 rV17 bel17 Ee hv18 nv18 hv19 ov19 sv19
  refine (CB.out _).mono ?_
  rintro e21 z21 ⟨rfl, rfl⟩
  go_wp2_with (first
    | ((with_reducible refine at_slot 68 ?_); (refine arm_five (o := ⟨some 68, _, _, _, _, _⟩) rfl _ _ _ _ _ rfl be le ce pe ae rfl rfl rfl rfl rfl ?_); intro N v22 Ne hv22 nv22))
  have q0 := Ne.out
  have q1 := nv22.size
  have q2 := rS20.lt
  have q3 := rB20.lt
  have q4 := rR20.lt
  have q5 := rP20.lt
  have q6 := rV20.lt
  have q7 := rE20.lt
  have q8 := bel20.size
  have lN : w.heap.size ≤ N := by omega
  have nSN : S ≠ N := by omega
  have nNS : N ≠ S := by omega
  have nBN : B ≠ N := by omega
  have nNB : N ≠ B := by omega
  have nRN : R ≠ N := by omega
  have nNR : N ≠ R := by omega
  have nPN : P ≠ N := by omega
  have nNP : N ≠ P := by omega
  have nVN : V ≠ N := by omega
  have nNV : N ≠ V := by omega
  have nEN : E ≠ N := by omega
  have nNE : N ≠ E := by omega
  have rS23 : Row v22 S 35 (scs s) := (rS20.old nv22.below)
  have rB23 : Row v22 B 64 (gcs b) := (rB20.old nv22.below)
  have rR23 : Row v22 R 35 (scs zs) := (rR20.old nv22.below)
  have rP23 : Row v22 P 23 (u8s dg) := (rP20.old nv22.below)
  have rV23 : Row v22 V 29 (wcs pm pl pc) := (rV20.old nv22.below)
  have rE23 : Row v22 E 33 (Ep.pcs ac an) := (rE20.old nv22.below)
  have rN23 : Row v22 N 60 ([.int .i64 be, .int .i64 le, .int .i64 ce, .int .i64 pe, .int .i64 ae]) := hv22
  have bel23 : Below w.heap.size w v22 := (below_step bel20 (by omega) nv22.below)
  clear q0 q1 q2 q3 q4 q5 q6 q7 q8 rS20 rB20 rR20 rP20 rV20 rE20 bel20 Ne hv22 nv22
  refine (C1.out _ N rN23).mono ?_
  rintro e24 z24 ⟨rfl, rfl⟩
  clear rN23
  clear rS23
  by_cases hz : z = 0
  · obtain rfl := hz
    have hz1 : ((0 : Int) != 0) = false := rfl
    have HR := Lib.hid (HS.out rfl)
    clear HS HZ
    go_wp2_with (first
      | ((with_reducible refine at_slot 74 ?_); (refine arm_load (o := ⟨some 74, _, _, _, _, _⟩) rfl _ _ rfl P 0 rfl (u8s dg) ((show Has (u8s dg) 0 (u8s dg) from Has.refl _).range (rP23)) (szH KD.out) ?_))
      | ((with_reducible refine at_slot 76 ?_); (refine arm_load (o := ⟨some 76, _, _, _, _, _⟩) rfl _ _ rfl B 1 rfl (u8s b.led) ((show Has (gcs b) 1 (u8s b.led) from g1 b).range (rB23)) (szH KB.out.led) ?_))
      | ((with_reducible refine at_slot 78 ?_); (refine arm_load (o := ⟨some 78, _, _, _, _, _⟩) rfl _ _ rfl B 33 rfl (u8s b.draw) ((show Has (gcs b) 33 (u8s b.draw) from g33 KB.out).range (rB23)) (szH KB.out.draw) ?_))
      | ((with_reducible refine at_slot 80 ?_); (refine arm_want (num32 b.slot) 80 rfl (by kernel_rfl) (run_op_load1 _ _ rfl (.int .u32) (by kernel_rfl) rfl ⟨B, 0, none⟩ rfl (num32 b.slot) (rB23.cell (show Has (gcs b) 0 [num32 b.slot] from g0 b).get)) ?_))
      | ((with_reducible refine at_slot 83 ?_); (refine arm_load (o := ⟨some 83, _, _, _, _, _⟩) rfl _ _ rfl V 0 rfl (wcs pm pl pc) ((show Has (wcs pm pl pc) 0 (wcs pm pl pc) from Has.refl _).range (rV23)) (sz_win HCL.out) ?_))
      | ((with_reducible refine at_slot 84 ?_); (refine arm_load (o := ⟨some 84, _, _, _, _, _⟩) rfl _ _ rfl E 0 rfl (Ep.pcs ac an) ((show Has (Ep.pcs ac an) 0 (Ep.pcs ac an) from Has.refl _).range (rE23)) (sz_pair KC.out KN.out) ?_))
      | ((with_reducible refine at_slot 85 ?_); (refine arm_build (o := ⟨some 85, _, _, _, _, _⟩) rfl _ _ rfl (scs g) (by simp only [List.map_toArray, List.map_cons, List.map_nil]; exact BG.out) ?_))
      | ((with_reducible refine arm_store (o := ⟨none, _, _, _, _, _⟩) rfl _ _ _ rfl R 0 rfl (scs g) rfl _ _ (rR23) (fitS KG.out) (scs_one _) (sz_sta KG.out) ?_); intro v25 hv25 ov25 sv25))
    have q0 := sv25.out
    have q1 := rB23.lt
    have q2 := (hv25.congr (allS KG.out)).lt
    have q3 := rP23.lt
    have q4 := rV23.lt
    have q5 := rE23.lt
    have q6 := bel23.size
    have rB26 : Row v25 B 64 (gcs b) := (rB23.only ov25 nBR)
    have rR26 : Row v25 R 35 (scs g) := (hv25.congr (allS KG.out))
    have rP26 : Row v25 P 23 (u8s dg) := (rP23.only ov25 nPR)
    have rV26 : Row v25 V 29 (wcs pm pl pc) := (rV23.only ov25 nVR)
    have rE26 : Row v25 E 33 (Ep.pcs ac an) := (rE23.only ov25 nER)
    have bel26 : Below w.heap.size w v25 := (below_only bel23 ov25 lR (by omega))
    clear q0 q1 q2 q3 q4 q5 q6 rB23 rP23 rV23 rE23 bel23 hv25 ov25 sv25
    rw [HR.out]
    exact bodyPost_ret (result_row2 (p := 4) (u := 5) (ty := 35) (t := 35) (by kernel_rfl) _ _ R (scs g) (.int .i64 0) rfl rfl rR26 (sz_sta KG.out)) rfl ⟨rfl, bel26⟩
  · have hz1 : (z == 0) = false := beq_eq_false_iff_ne.2 hz
    have hz2 : (z != 0) = true := bne_iff_ne.2 hz
    have HR := Lib.hid (HZ.out hz)
    clear HS HZ hz
    go_wp2_with (first
      | ((with_reducible refine at_slot 72 ?_); (refine arm_build (o := ⟨some 72, _, _, _, _, _⟩) rfl _ _ rfl (scs zs) (by simp only [List.map_toArray, List.map_cons, List.map_nil]; exact built_sta0) ?_))
      | ((with_reducible refine arm_store (o := ⟨none, _, _, _, _, _⟩) rfl _ _ _ rfl R 0 rfl (scs zs) rfl _ _ (rR23) (fitS zs_ok) (scs_one _) (sz_sta zs_ok) ?_); intro v25 hv25 ov25 sv25))
    have q0 := sv25.out
    have q1 := rB23.lt
    have q2 := (hv25.congr (allS zs_ok)).lt
    have q3 := rP23.lt
    have q4 := rV23.lt
    have q5 := rE23.lt
    have q6 := bel23.size
    have rB26 : Row v25 B 64 (gcs b) := (rB23.only ov25 nBR)
    have rR26 : Row v25 R 35 (scs zs) := (hv25.congr (allS zs_ok))
    have rP26 : Row v25 P 23 (u8s dg) := (rP23.only ov25 nPR)
    have rV26 : Row v25 V 29 (wcs pm pl pc) := (rV23.only ov25 nVR)
    have rE26 : Row v25 E 33 (Ep.pcs ac an) := (rE23.only ov25 nER)
    have bel26 : Below w.heap.size w v25 := (below_only bel23 ov25 lR (by omega))
    clear q0 q1 q2 q3 q4 q5 q6 rB23 rP23 rV23 rE23 bel23 hv25 ov25 sv25
    rw [HR.out]
    exact bodyPost_ret (result_row2 (p := 4) (u := 5) (ty := 35) (t := 35) (by kernel_rfl) _ _ R (scs zs) (.int .i64 z) rfl rfl rR26 (sz_sta zs_ok)) rfl ⟨rfl, bel26⟩
end Go.Proofs.YtffpifljeeikfaaGreatDoor.Gr
