import Derived.Test.YtffpifljeeikfaaGreatDoorNumAll
import Derived.Test.YtffpifljeeikfaaGreatDoorMemAll
import Derived.BigQuiet
import Derived.Test.YtffpifljeeikfaaGreatDoorBytAll
import Derived.Test.YtffpifljeeikfaaGreatDoorShaAll
import Derived.Test.YtffpifljeeikfaaGreatDoorFitAll
import Derived.Test.YtffpifljeeikfaaGreatDoorTagAll
/-
  The contracts of some functions of packages slot and num over natural numbers, with what the walk needs of memory: nothing that was there changes ('Below'). Over this seat's translation.
-/
namespace Go.Proofs.YtffpifljeeikfaaGreatDoor.Slot
open Go.ChangeShapes Go.WideShapes Go.ChangeAt Go.RowKit Go.Proofs.YtffpifljeeikfaaGreatDoor.Mem
open Num (in32 keep32)
set_option linter.unusedVariables false

theorem partedB_any (n b : Nat) (w : World) (h1 : n < 4294967296) (b0 : 1 ≤ b) (b1 : b < 4294967296) :
    Calls Tryz.prog 57 #[.int .u32 (n : Int), .int .u32 (b : Int)] w fun e w' => e = .returned (.tuple #[.int .u32 ((n : Int) / (b : Int)), .int .u32 ((n : Int) % (b : Int))]) ∧ Below w.heap.size w w' := by
  have hz : ((b : Int) != 0) = true := bne_iff_ne.2 (by omega)
  have hz2 : ((b : Int) == 0) = false := beq_eq_false_iff_ne.2 (by omega)
  have hd0 : 0 ≤ (n : Int) / (b : Int) := Int.ediv_nonneg (by omega) (by omega)
  have hd1 : (n : Int) / (b : Int) ≤ 4294967295 := Int.le_trans (Int.ediv_le_self (b : Int) (by omega)) (by omega)
  have hm0 : 0 ≤ (n : Int) % (b : Int) := Int.emod_nonneg (n : Int) (by omega)
  have hm1 : (n : Int) % (b : Int) ≤ 4294967295 := by have := Int.emod_lt_of_pos (n : Int) (by omega : 0 < (b : Int)); omega
  go_enter Tryz.func57, Tryz.ntmps57
  go_wp2_with fail
  go_quiet (fail)
  go_wp2
  go_ret2
  exact ⟨rfl, below_drewN _ _ _⟩
theorem epochB_any (n : Nat) (w : World) (h1 : n < 4294967296) :
    Calls Tryz.prog 42 #[.int .u32 (n : Int)] w fun e w' => e = .returned (.int .u32 ((n / 24 : Nat) : Int)) ∧ Below w.heap.size w w' := by
  have C := partedB_any n 24 w h1 (by omega) (by omega)
  go_enter Tryz.func42, Tryz.ntmps42
  go_wp2_with fail
  refine C.mono ?_
  rintro e w1 ⟨rfl, g1⟩
  go_wp2
  go_ret
  exact ⟨congrArg (fun n => Ending.returned (.int .u32 n)) (by omega), g1⟩
theorem placeB_any (n : Nat) (w : World) (h1 : n < 4294967296) :
    Calls Tryz.prog 58 #[.int .u32 (n : Int)] w fun e w' => e = .returned (.int .u32 ((n % 24 : Nat) : Int)) ∧ Below w.heap.size w w' := by
  have C := partedB_any n 24 w h1 (by omega) (by omega)
  go_enter Tryz.func58, Tryz.ntmps58
  go_wp2_with fail
  refine C.mono ?_
  rintro e w1 ⟨rfl, g1⟩
  go_wp2
  go_ret
  exact ⟨congrArg (fun n => Ending.returned (.int .u32 n)) (by omega), g1⟩
theorem lockingB_any (n : Nat) (w : World) (h1 : n < 4294967296) :
    Calls Tryz.prog 43 #[.int .u32 (n : Int)] w fun e w' => e = .returned (.bool (decide (n % 24 < 16))) ∧ Below w.heap.size w w' := by
  have C := placeB_any n w h1
  have hm : n % 24 < 24 := Nat.mod_lt _ (by omega)
  have hd : Hid (decide (((n % 24 : Nat) : Int) < 16) = decide (n % 24 < 16)) := Lib.hid (by rw [decide_eq_decide]; omega)
  generalize n % 24 = m at C hm hd ⊢
  go_enter Tryz.func43, Tryz.ntmps43
  go_wp2_with fail
  refine C.mono ?_
  rintro e w1 ⟨rfl, g1⟩
  go_wp2
  go_ret
  exact ⟨congrArg (fun b => Ending.returned (.bool b)) hd.out, g1⟩
theorem turnsB_any (a b : Nat) (w : World) (h1 : a < 4294967296) (h2 : b < 4294967296) :
    Calls Tryz.prog 41 #[.int .u32 (a : Int), .int .u32 (b : Int)] w fun e w' => e = .returned (.bool (decide (a / 24 < b / 24))) ∧ Below w.heap.size w w' := by
  have C1 := fun w0 => Lib.hid (epochB_any b w0 h2)
  have C2 := fun w0 => Lib.hid (epochB_any a w0 h1)
  have ha : a / 24 < 4294967296 := by omega
  have hb : b / 24 < 4294967296 := by omega
  have hd : Hid (decide (((a / 24 : Nat) : Int) < ((b / 24 : Nat) : Int)) = decide (a / 24 < b / 24)) := Lib.hid (by rw [decide_eq_decide]; omega)
  generalize a / 24 = m at C1 C2 ha hd ⊢
  generalize b / 24 = k at C1 C2 hb hd ⊢
  go_enter Tryz.func41, Tryz.ntmps41
  go_wp2_with fail
  refine (C1 _).out.mono ?_
  rintro e w1 ⟨rfl, g1⟩
  go_wp2_with fail
  refine (C2 _).out.mono ?_
  rintro e w2 ⟨rfl, g2⟩
  go_wp2
  go_ret
  exact ⟨rfl, below_step g1 g1.size g2⟩
theorem repoch_nat (n : Nat) (w : World) (h1 : n < 4294967296) :
    Calls Tryz.prog 22 #[.int .u32 (n : Int)] w fun e w' => e = .returned (.int .u32 ((n / 24 : Nat) : Int)) ∧ w = w' :=
  (repoch_any (n : Int) w (by omega) (by omega)).mono fun e w' h => ⟨by rw [h.1]; exact congrArg (fun n => Ending.returned (.int .u32 n)) (by omega), h.2⟩
theorem rlocking_nat (n : Nat) (w : World) (h1 : n < 4294967296) :
    Calls Tryz.prog 23 #[.int .u32 (n : Int)] w fun e w' => e = .returned (.bool (decide (n % 24 < 16))) ∧ w = w' :=
  (rlocking_any (n : Int) w (by omega) (by omega)).mono fun e w' h => ⟨by rw [h.1]; exact congrArg (fun n => Ending.returned (.bool n)) (by rw [decide_eq_decide]; omega), h.2⟩
theorem add32B_any (a b : Int) (w : World) (h0 : 0 ≤ a) (h1 : a ≤ 4294967295) (h2 : 0 ≤ b) (h3 : b ≤ 4294967295) :
    Calls Tryz.prog 50 #[.int .u32 a, .int .u32 b] w fun e w' => e = .returned (.tuple #[.int .u32 (keep32 (a + b)), .bool (in32 (a + b))]) ∧ Below w.heap.size w w' := by
  go_enter Tryz.func50, Tryz.ntmps50
  go_wp2_with fail
  refine (Num.told32_two _ _ _ _).mono ?_
  rintro e w' ⟨rfl, rfl⟩
  go_wp2
  go_ret2
  have hp := Num.add32_plain a b h0 h1 h2 h3
  exact ⟨Num.ret_two (Num.kept32 hp fun h => by have := Num.is32 h; omega) hp, (Below.refl _ _).alloc (Nat.le_refl _) _⟩
end Go.Proofs.YtffpifljeeikfaaGreatDoor.Slot

/-
  An epoch's data, pairs of them and blocks, as cells: what stands where, what a write leaves, how they are written out, '=='. Over this seat's translation.
-/
namespace Go.Proofs.YtffpifljeeikfaaGreatDoor.Ep
open Go.ChangeShapes Go.WideShapes Go.ChangeAt Go.RowKit Go.Proofs.YtffpifljeeikfaaGreatDoor.Mem Go.Proofs.YtffpifljeeikfaaGreatDoor.Bt Go.Proofs.YtffpifljeeikfaaGreatDoor.Sha
set_option linter.unusedVariables false
set_option linter.unusedSimpArgs false

/-! ### What stands where. -/
/-- These cells stand at a place. -/
structure Has (cs : List Value) (o : Nat) (vs : List Value) : Prop where
  ex : ∃ p r, cs = p ++ (vs ++ r) ∧ p.length = o
theorem Has.refl (vs : List Value) : Has vs 0 vs := ⟨[], [], by simp, rfl⟩
theorem Has.left {cs a b : List Value} {o : Nat} (h : Has cs o (a ++ b)) : Has cs o a := by
  obtain ⟨p, r, e, hp⟩ := h.ex
  exact ⟨p, b ++ r, by rw [e, List.append_assoc], hp⟩
theorem Has.right {cs a b : List Value} {o : Nat} (h : Has cs o (a ++ b)) (n : Nat) (hn : a.length = n) : Has cs (o + n) b := by
  obtain ⟨p, r, e, hp⟩ := h.ex
  exact ⟨p ++ a, r, by rw [e]; simp only [List.append_assoc], by rw [List.length_append, hp, hn]⟩
theorem Has.head {cs b : List Value} {v : Value} {o : Nat} (h : Has cs o (v :: b)) : Has cs o [v] := Has.left (a := [v]) (b := b) h
theorem Has.tail {cs b : List Value} {v : Value} {o : Nat} (h : Has cs o (v :: b)) : Has cs (o + 1) b := Has.right (a := [v]) (b := b) h 1 rfl
theorem Has.get {cs : List Value} {o : Nat} {v : Value} (h : Has cs o [v]) : cs[o]? = some v := by
  obtain ⟨p, r, e, hp⟩ := h.ex
  rw [e, List.getElem?_append_right (by omega), hp, Nat.sub_self]
  rfl
theorem Has.range {w : World} {b o : Nat} {t : TypeId} {cs vs : List Value} (h : Has cs o vs) (hr : Row w b t cs) : w.rangeAt b o vs := hr.range o _ (fun j v hj => by
  obtain ⟨p, r, e, hp⟩ := h.ex
  rw [e, List.getElem?_append_right (by omega), hp, Nat.add_sub_cancel_left, List.getElem?_append_left (List.getElem?_eq_some_iff.1 hj).1]
  exact hj)
theorem Has.le {cs vs : List Value} {o : Nat} (h : Has cs o vs) : o + vs.length ≤ cs.length := by
  obtain ⟨p, r, e, hp⟩ := h.ex
  rw [e, List.length_append, List.length_append]
  omega
theorem Has.same {cs vs : List Value} {o : Nat} (h : Has cs o vs) : lay cs o vs = cs := by
  obtain ⟨p, r, e, hp⟩ := h.ex
  subst e hp
  unfold lay
  rw [List.take_left, ← List.append_assoc, List.drop_append_of_le_length (by rw [List.length_append]; omega), List.drop_eq_nil_of_le (by rw [List.length_append]; omega), List.nil_append]

/-! ### Data, pairs, blocks. -/
/-- A digest. -/
structure H32 (h : List Nat) : Prop where
  len : h.length = 32
  lt : AllLt 256 h
/-- The zero digest. -/
def zh : List Nat := List.replicate 32 0
theorem zh_ok : H32 zh := ⟨rfl, fun x hx => by have := List.eq_of_mem_replicate hx; omega⟩
/-- What is told of an epoch. -/
structure Dat where
  led : List Nat
  seed : List Nat
  start : List Nat
  lock : List Nat
  len : Nat
structure Dat.Ok (d : Dat) : Prop where
  led : H32 d.led
  seed : H32 d.seed
  start : H32 d.start
  lock : H32 d.lock
  len : d.len < 4294967296
/-- A block that follows. -/
structure Blk where
  fro : Nat
  to : Nat
  prev : List Nat
  led : List Nat
  draw : List Nat
structure Blk.Ok (b : Blk) : Prop where
  fro : b.fro < 4294967296
  to : b.to < 4294967296
  prev : H32 b.prev
  led : H32 b.led
  draw : H32 b.draw
def num32 (n : Nat) : Value := .int .u32 (n : Int)
def dcs (d : Dat) : List Value := u8s d.led ++ (u8s d.seed ++ (u8s d.start ++ (u8s d.lock ++ [num32 d.len])))
def pcs (a c : Dat) : List Value := dcs a ++ dcs c
def bcs (b : Blk) : List Value := num32 b.fro :: num32 b.to :: (u8s b.prev ++ (u8s b.led ++ u8s b.draw))
/-- The zero data. -/
def zd : Dat := ⟨zh, zh, zh, zh, 0⟩
theorem z32 : 0 < 4294967296 := by decide
theorem zd_ok : zd.Ok := ⟨zh_ok, zh_ok, zh_ok, zh_ok, by decide⟩
theorem h_len {h : List Nat} (k : H32 h) : (u8s h).length = 32 := by rw [u8s_length, k.len]
theorem dcs_len {d : Dat} (h : d.Ok) : (dcs d).length = 129 := by
  unfold dcs
  simp only [List.length_append, h_len h.led, h_len h.seed, h_len h.start, h_len h.lock, List.length_singleton]
theorem pcs_len {a c : Dat} (ha : a.Ok) (hc : c.Ok) : (pcs a c).length = 258 := by unfold pcs; rw [List.length_append, dcs_len ha, dcs_len hc]
theorem bcs_len {b : Blk} (h : b.Ok) : (bcs b).length = 98 := by
  unfold bcs
  simp only [List.length_cons, List.length_append, h_len h.prev, h_len h.led, h_len h.draw]
theorem one_app {a b : List Value} (ha : OneCells a) (hb : OneCells b) : OneCells (a ++ b) := fun v hv => (List.mem_append.1 hv).elim (ha v) (hb v)
theorem one_num (n : Nat) : OneCells [num32 n] := by intro v hv; rw [List.mem_singleton.1 hv]; rfl
theorem dcs_one (d : Dat) : OneCells (dcs d) := one_app (u8s_one _) (one_app (u8s_one _) (one_app (u8s_one _) (one_app (u8s_one _) (one_num _))))
theorem pcs_one (a c : Dat) : OneCells (pcs a c) := one_app (dcs_one _) (dcs_one _)
theorem bcs_one (b : Blk) : OneCells (bcs b) := one_app (a := [num32 b.fro]) (one_num _) (one_app (a := [num32 b.to]) (one_num _) (one_app (u8s_one _) (one_app (u8s_one _) (u8s_one _))))
section
variable {cs : List Value} {o : Nat} {d : Dat}
theorem d_led (h : Has cs o (dcs d)) : Has cs o (u8s d.led) := h.left
theorem d_seed (k : d.Ok) (h : Has cs o (dcs d)) : Has cs (o + 32) (u8s d.seed) := (h.right 32 (h_len k.led)).left
theorem d_start (k : d.Ok) (h : Has cs o (dcs d)) : Has cs (o + 64) (u8s d.start) := ((h.right 32 (h_len k.led)).right 32 (h_len k.seed)).left
theorem d_lock (k : d.Ok) (h : Has cs o (dcs d)) : Has cs (o + 96) (u8s d.lock) := (((h.right 32 (h_len k.led)).right 32 (h_len k.seed)).right 32 (h_len k.start)).left
theorem d_len (k : d.Ok) (h : Has cs o (dcs d)) : Has cs (o + 128) [num32 d.len] := (((h.right 32 (h_len k.led)).right 32 (h_len k.seed)).right 32 (h_len k.start)).right 32 (h_len k.lock)
theorem p_now {a c : Dat} (h : Has cs o (pcs a c)) : Has cs o (dcs a) := h.left
theorem p_next {a c : Dat} (k : a.Ok) (h : Has cs o (pcs a c)) : Has cs (o + 129) (dcs c) := h.right 129 (dcs_len k)
theorem b_fro {b : Blk} (h : Has cs o (bcs b)) : Has cs o [num32 b.fro] := h.head
theorem b_to {b : Blk} (h : Has cs o (bcs b)) : Has cs (o + 1) [num32 b.to] := h.tail.head
theorem b_prev {b : Blk} (h : Has cs o (bcs b)) : Has cs (o + 2) (u8s b.prev) := h.tail.tail.left
theorem b_led {b : Blk} (k : b.Ok) (h : Has cs o (bcs b)) : Has cs (o + 34) (u8s b.led) := (h.tail.tail.right 32 (h_len k.prev)).left
theorem b_draw {b : Blk} (k : b.Ok) (h : Has cs o (bcs b)) : Has cs (o + 66) (u8s b.draw) := (h.tail.tail.right 32 (h_len k.prev)).right 32 (h_len k.led)
end
/-! ### What a write leaves. -/
section
variable {d : Dat} {x : List Nat} (k : d.Ok) (hx : H32 x) (r : List Value)
include k hx
theorem lay_led : lay (dcs d ++ r) 0 (u8s x) = dcs ⟨x, d.seed, d.start, d.lock, d.len⟩ ++ r := by
  unfold dcs
  simp only [List.append_assoc]
  rw [lay_head _ _ _ (by rw [h_len hx, h_len k.led])]
theorem lay_seed : lay (dcs d ++ r) 32 (u8s x) = dcs ⟨d.led, x, d.start, d.lock, d.len⟩ ++ r := by
  unfold dcs
  simp only [List.append_assoc]
  rw [show (32 : Nat) = 32 + 0 from rfl, lay_skip _ _ _ 0 (h_len k.led), lay_head _ _ _ (by rw [h_len hx, h_len k.seed])]
theorem lay_start : lay (dcs d ++ r) 64 (u8s x) = dcs ⟨d.led, d.seed, x, d.lock, d.len⟩ ++ r := by
  unfold dcs
  simp only [List.append_assoc]
  rw [show (64 : Nat) = 32 + (32 + 0) from rfl, lay_skip _ _ _ _ (h_len k.led), lay_skip _ _ _ _ (h_len k.seed), lay_head _ _ _ (by rw [h_len hx, h_len k.start])]
theorem lay_lock : lay (dcs d ++ r) 96 (u8s x) = dcs ⟨d.led, d.seed, d.start, x, d.len⟩ ++ r := by
  unfold dcs
  simp only [List.append_assoc]
  rw [show (96 : Nat) = 32 + (32 + (32 + 0)) from rfl, lay_skip _ _ _ _ (h_len k.led), lay_skip _ _ _ _ (h_len k.seed), lay_skip _ _ _ _ (h_len k.start), lay_head _ _ _ (by rw [h_len hx, h_len k.lock])]
end
theorem set_lay {cs : List Value} {o : Nat} {v : Value} (h : o < cs.length) : cs.set o v = lay cs o [v] := by
  rw [List.set_eq_take_append_cons_drop, if_pos h]
  simp [lay]
theorem lay_lenv {d : Dat} (k : d.Ok) (n : Nat) (r : List Value) : lay (dcs d ++ r) 128 [num32 n] = dcs ⟨d.led, d.seed, d.start, d.lock, n⟩ ++ r := by
  unfold dcs
  simp only [List.append_assoc]
  rw [show (128 : Nat) = 32 + (32 + (32 + (32 + 0))) from rfl, lay_skip _ _ _ _ (h_len k.led), lay_skip _ _ _ _ (h_len k.seed), lay_skip _ _ _ _ (h_len k.start), lay_skip _ _ _ _ (h_len k.lock), lay_head [num32 d.len] r [num32 n] rfl]
theorem set_len {d : Dat} (k : d.Ok) (n : Nat) (r : List Value) : (dcs d ++ r).set 128 (num32 n) = dcs ⟨d.led, d.seed, d.start, d.lock, n⟩ ++ r := by
  rw [set_lay (by rw [List.length_append, dcs_len k]; omega), lay_lenv k]
theorem lay_dat {d e : Dat} (k : d.Ok) (j : e.Ok) (r : List Value) : lay (dcs d ++ r) 0 (dcs e) = dcs e ++ r := lay_head _ _ _ (by rw [dcs_len k, dcs_len j])
/-- The second data of a pair. -/
theorem lay_snd {a : Dat} (k : a.Ok) (c : Dat) (o : Nat) (vs : List Value) : lay (pcs a c) (129 + o) vs = dcs a ++ lay (dcs c ++ []) o vs := by
  unfold pcs
  rw [List.append_nil, lay_skip _ _ _ o (dcs_len k)]
theorem lay_fst (a c : Dat) (o : Nat) (vs : List Value) : lay (pcs a c) o vs = lay (dcs a ++ dcs c) o vs := rfl
theorem lay_next {a c e : Dat} (k : a.Ok) (kc : c.Ok) (ke : e.Ok) : lay (pcs a c) 129 (dcs e) = pcs a e := by
  rw [show (129 : Nat) = 129 + 0 from rfl, lay_snd k, lay_dat kc ke, List.append_nil]
  rfl
theorem lay_now {a c e : Dat} (k : a.Ok) (ke : e.Ok) : lay (pcs a c) 0 (dcs e) = pcs e c := lay_dat k ke _
theorem lay_nseed {a c : Dat} {x : List Nat} (k : a.Ok) (kc : c.Ok) (hx : H32 x) : lay (pcs a c) 161 (u8s x) = pcs a ⟨c.led, x, c.start, c.lock, c.len⟩ := by
  rw [show (161 : Nat) = 129 + 32 from rfl, lay_snd k, lay_seed kc hx, List.append_nil]
  rfl
theorem lay_nlock {a c : Dat} {x : List Nat} (k : a.Ok) (kc : c.Ok) (hx : H32 x) : lay (pcs a c) 225 (u8s x) = pcs a ⟨c.led, c.seed, c.start, x, c.len⟩ := by
  rw [show (225 : Nat) = 129 + 96 from rfl, lay_snd k, lay_lock kc hx, List.append_nil]
  rfl
theorem set_nlen {a c : Dat} (k : a.Ok) (kc : c.Ok) (n : Nat) : (pcs a c).set 257 (num32 n) = pcs a ⟨c.led, c.seed, c.start, c.lock, n⟩ := by
  rw [set_lay (by rw [pcs_len k kc]; omega), show (257 : Nat) = 129 + 128 from rfl, lay_snd k, lay_lenv kc, List.append_nil]
  rfl
theorem lay_draw {b : Blk} {x : List Nat} (k : b.Ok) (hx : H32 x) : lay (bcs b) 66 (u8s x) = bcs ⟨b.fro, b.to, b.prev, b.led, x⟩ := by
  have e : ∀ b : Blk, bcs b = [num32 b.fro, num32 b.to] ++ (u8s b.prev ++ (u8s b.led ++ (u8s b.draw ++ []))) := fun b => by rw [List.append_nil]; rfl
  rw [e, show (66 : Nat) = 2 + (32 + (32 + 0)) from rfl, lay_skip [num32 b.fro, num32 b.to] _ _ _ (m := 2) rfl, lay_skip _ _ _ _ (h_len k.prev), lay_skip _ _ _ _ (h_len k.led), lay_head _ _ _ (by rw [h_len hx, h_len k.draw]), e]

/-! ### Their types. -/
theorem szH {h : List Nat} (k : H32 h) : Sized Tryz.prog 23 (u8s h).length := by rw [h_len k]; exact sz25
theorem sz_dat {d : Dat} (h : d.Ok) : Sized Tryz.prog 31 (dcs d).length := by rw [dcs_len h]; exact ⟨.struct (Tryz.prog.fieldsOf 31), by kernel_rfl, rfl, by kernel_rfl⟩
theorem z_dat : Mem.Zero Tryz.prog 31 (dcs zd) := by unfold Mem.Zero; kernel_rfl
theorem sz_rdat {d : Dat} (h : d.Ok) : Sized Tryz.prog 45 (dcs d).length := by rw [dcs_len h]; exact ⟨.struct (Tryz.prog.fieldsOf 45), by kernel_rfl, rfl, by kernel_rfl⟩
theorem z_rdat : Mem.Zero Tryz.prog 45 (dcs zd) := by unfold Mem.Zero; kernel_rfl
theorem sz_pair {a c : Dat} (h : a.Ok) (k : c.Ok) : Sized Tryz.prog 33 (pcs a c).length := by rw [pcs_len h k]; exact ⟨.struct (Tryz.prog.fieldsOf 33), by kernel_rfl, rfl, by kernel_rfl⟩
theorem z_pair : Mem.Zero Tryz.prog 33 (pcs zd zd) := by unfold Mem.Zero; kernel_rfl
theorem sz_rpair {a c : Dat} (h : a.Ok) (k : c.Ok) : Sized Tryz.prog 47 (pcs a c).length := by rw [pcs_len h k]; exact ⟨.struct (Tryz.prog.fieldsOf 47), by kernel_rfl, rfl, by kernel_rfl⟩
theorem z_rpair : Mem.Zero Tryz.prog 47 (pcs zd zd) := by unfold Mem.Zero; kernel_rfl
theorem sz_maker {a c : Dat} (h : a.Ok) (k : c.Ok) : Sized Tryz.prog 112 (pcs a c).length := by rw [pcs_len h k]; exact ⟨.struct (Tryz.prog.fieldsOf 112), by kernel_rfl, rfl, by kernel_rfl⟩
theorem z_maker : Mem.Zero Tryz.prog 112 (pcs zd zd) := by unfold Mem.Zero; kernel_rfl
theorem sz_blk {b : Blk} (h : b.Ok) : Sized Tryz.prog 90 (bcs b).length := by rw [bcs_len h]; exact ⟨.struct (Tryz.prog.fieldsOf 90), by kernel_rfl, rfl, by kernel_rfl⟩
/-! ### Written out. -/
def dplaces : Nat → Option (Nat × Nat) := fun i => (#[(0, 32), (32, 32), (64, 32), (96, 32), (128, 1)] : Array (Nat × Nat))[i]?
def pplaces : Nat → Option (Nat × Nat) := fun i => (#[(0, 129), (129, 129)] : Array (Nat × Nat))[i]?
def bplaces : Nat → Option (Nat × Nat) := fun i => (#[(0, 1), (1, 1), (2, 32), (34, 32), (66, 32)] : Array (Nat × Nat))[i]?
section
variable {d : Dat} {x : List Nat} (k : d.Ok) (hx : H32 x) (rest : List (Nat × Value))
include k hx
theorem f_led : Instr.fill dplaces (dcs d).toArray ((0, .agg (u8s x).toArray) :: rest) = Instr.fill dplaces (dcs ⟨x, d.seed, d.start, d.lock, d.len⟩).toArray rest := by
  rw [fill_step dplaces (dcs d) 0 0 32 _ (u8s x) rest rfl rfl (h_len hx) (by rw [dcs_len k]; omega)]
  have := lay_led k hx []
  rw [List.append_nil, List.append_nil] at this
  rw [this]
theorem f_seed : Instr.fill dplaces (dcs d).toArray ((1, .agg (u8s x).toArray) :: rest) = Instr.fill dplaces (dcs ⟨d.led, x, d.start, d.lock, d.len⟩).toArray rest := by
  rw [fill_step dplaces (dcs d) 1 32 32 _ (u8s x) rest rfl rfl (h_len hx) (by rw [dcs_len k]; omega)]
  have := lay_seed k hx []
  rw [List.append_nil, List.append_nil] at this
  rw [this]
theorem f_start : Instr.fill dplaces (dcs d).toArray ((2, .agg (u8s x).toArray) :: rest) = Instr.fill dplaces (dcs ⟨d.led, d.seed, x, d.lock, d.len⟩).toArray rest := by
  rw [fill_step dplaces (dcs d) 2 64 32 _ (u8s x) rest rfl rfl (h_len hx) (by rw [dcs_len k]; omega)]
  have := lay_start k hx []
  rw [List.append_nil, List.append_nil] at this
  rw [this]
end
theorem f_len {d : Dat} (k : d.Ok) (n : Nat) (rest : List (Nat × Value)) : Instr.fill dplaces (dcs d).toArray ((4, num32 n) :: rest) = Instr.fill dplaces (dcs ⟨d.led, d.seed, d.start, d.lock, n⟩).toArray rest := by
  rw [fill_step dplaces (dcs d) 4 128 1 (num32 n) [num32 n] rest rfl rfl rfl (by rw [dcs_len k]; omega)]
  have := lay_lenv k n []
  rw [List.append_nil, List.append_nil] at this
  rw [this]
theorem shape_dat (parts : List (Nat × Value)) : Tryz.prog.built 31 parts = Instr.fill dplaces (dcs ⟨zh, zh, zh, zh, 0⟩).toArray parts := by unfold dplaces; kernel_rfl
theorem built_dat1 {l : List Nat} (hl : H32 l) : Tryz.prog.built 31 [(0, .agg (u8s l).toArray), (4, num32 1)] = some (dcs ⟨l, zh, zh, zh, 1⟩).toArray := by
  rw [shape_dat, f_led (d := ⟨zh, zh, zh, zh, 0⟩) zd_ok hl, f_len (d := ⟨l, zh, zh, zh, 0⟩) ⟨hl, zh_ok, zh_ok, zh_ok, z32⟩, fill_done]
theorem shape_rdat (parts : List (Nat × Value)) : Tryz.prog.built 45 parts = Instr.fill dplaces (dcs ⟨zh, zh, zh, zh, 0⟩).toArray parts := by unfold dplaces; kernel_rfl
theorem built_rdat1 {l : List Nat} (hl : H32 l) : Tryz.prog.built 45 [(0, .agg (u8s l).toArray), (4, num32 1)] = some (dcs ⟨l, zh, zh, zh, 1⟩).toArray := by
  rw [shape_rdat, f_led (d := ⟨zh, zh, zh, zh, 0⟩) zd_ok hl, f_len (d := ⟨l, zh, zh, zh, 0⟩) ⟨hl, zh_ok, zh_ok, zh_ok, z32⟩, fill_done]
theorem built_rdat4 {l s a : List Nat} (hl : H32 l) (hs : H32 s) (ha : H32 a) : Tryz.prog.built 45 [(0, .agg (u8s l).toArray), (1, .agg (u8s s).toArray), (2, .agg (u8s a).toArray), (4, num32 1)] = some (dcs ⟨l, s, a, zh, 1⟩).toArray := by
  rw [shape_rdat, f_led (d := ⟨zh, zh, zh, zh, 0⟩) zd_ok hl, f_seed (d := ⟨l, zh, zh, zh, 0⟩) ⟨hl, zh_ok, zh_ok, zh_ok, z32⟩ hs, f_start (d := ⟨l, s, zh, zh, 0⟩) ⟨hl, hs, zh_ok, zh_ok, z32⟩ ha, f_len (d := ⟨l, s, a, zh, 0⟩) ⟨hl, hs, ha, zh_ok, z32⟩, fill_done]
theorem built_rdat3 {l s a : List Nat} (hl : H32 l) (hs : H32 s) (ha : H32 a) : Tryz.prog.built 45 [(0, .agg (u8s l).toArray), (1, .agg (u8s s).toArray), (2, .agg (u8s a).toArray)] = some (dcs ⟨l, s, a, zh, 0⟩).toArray := by
  rw [shape_rdat, f_led (d := ⟨zh, zh, zh, zh, 0⟩) zd_ok hl, f_seed (d := ⟨l, zh, zh, zh, 0⟩) ⟨hl, zh_ok, zh_ok, zh_ok, z32⟩ hs, f_start (d := ⟨l, s, zh, zh, 0⟩) ⟨hl, hs, zh_ok, zh_ok, z32⟩ ha, fill_done]
theorem shape_pair (parts : List (Nat × Value)) : Tryz.prog.built 33 parts = Instr.fill pplaces (pcs zd zd).toArray parts := by unfold pplaces; kernel_rfl
theorem built_pair {a c : Dat} (ha : a.Ok) (hc : c.Ok) : Tryz.prog.built 33 [(0, .agg (dcs a).toArray), (1, .agg (dcs c).toArray)] = some (pcs a c).toArray := by
  rw [shape_pair, fill_step pplaces _ 0 0 129 _ (dcs a) _ rfl rfl (dcs_len ha) (by rw [pcs_len zd_ok zd_ok]; omega), lay_now zd_ok ha, fill_step pplaces _ 1 129 129 _ (dcs c) _ rfl rfl (dcs_len hc) (by rw [pcs_len ha zd_ok]; omega), lay_next ha zd_ok hc, fill_done]
theorem built_pair0 : Tryz.prog.built 33 [] = some (pcs zd zd).toArray := by rw [shape_pair, fill_done]
theorem shape_rpair (parts : List (Nat × Value)) : Tryz.prog.built 47 parts = Instr.fill pplaces (pcs zd zd).toArray parts := by unfold pplaces; kernel_rfl
theorem built_rpair {a c : Dat} (ha : a.Ok) (hc : c.Ok) : Tryz.prog.built 47 [(0, .agg (dcs a).toArray), (1, .agg (dcs c).toArray)] = some (pcs a c).toArray := by
  rw [shape_rpair, fill_step pplaces _ 0 0 129 _ (dcs a) _ rfl rfl (dcs_len ha) (by rw [pcs_len zd_ok zd_ok]; omega), lay_now zd_ok ha, fill_step pplaces _ 1 129 129 _ (dcs c) _ rfl rfl (dcs_len hc) (by rw [pcs_len ha zd_ok]; omega), lay_next ha zd_ok hc, fill_done]
theorem built_rpair0 : Tryz.prog.built 47 [] = some (pcs zd zd).toArray := by rw [shape_rpair, fill_done]
theorem shape_maker (parts : List (Nat × Value)) : Tryz.prog.built 112 parts = Instr.fill pplaces (pcs zd zd).toArray parts := by unfold pplaces; kernel_rfl
theorem built_maker {a c : Dat} (ha : a.Ok) (hc : c.Ok) : Tryz.prog.built 112 [(0, .agg (dcs a).toArray), (1, .agg (dcs c).toArray)] = some (pcs a c).toArray := by
  rw [shape_maker, fill_step pplaces _ 0 0 129 _ (dcs a) _ rfl rfl (dcs_len ha) (by rw [pcs_len zd_ok zd_ok]; omega), lay_now zd_ok ha, fill_step pplaces _ 1 129 129 _ (dcs c) _ rfl rfl (dcs_len hc) (by rw [pcs_len ha zd_ok]; omega), lay_next ha zd_ok hc, fill_done]
theorem built_maker0 : Tryz.prog.built 112 [] = some (pcs zd zd).toArray := by rw [shape_maker, fill_done]
/-- The zero block. -/
def zb : Blk := ⟨0, 0, zh, zh, zh⟩
theorem bcs_app (b : Blk) : bcs b = [num32 b.fro] ++ ([num32 b.to] ++ (u8s b.prev ++ (u8s b.led ++ (u8s b.draw ++ [])))) := by rw [List.append_nil]; rfl
theorem shape_blk (parts : List (Nat × Value)) : Tryz.prog.built 90 parts = Instr.fill bplaces (bcs zb).toArray parts := by unfold bplaces; kernel_rfl
theorem built_blk {b : Blk} (k : b.Ok) : Tryz.prog.built 90 [(0, num32 b.fro), (1, num32 b.to), (2, .agg (u8s b.prev).toArray), (3, .agg (u8s b.led).toArray), (4, .agg (u8s b.draw).toArray)] = some (bcs b).toArray := by
  have zl : (u8s zh).length = 32 := rfl
  rw [shape_blk]
  rw [fill_step bplaces (bcs zb) 0 0 1 _ [num32 b.fro] _ rfl rfl rfl (by decide)]
  rw [show lay (bcs zb) 0 [num32 b.fro] = bcs ⟨b.fro, 0, zh, zh, zh⟩ by rw [bcs_app, lay_head [num32 zb.fro] _ [num32 b.fro] rfl, bcs_app]; rfl]
  rw [fill_step bplaces (bcs ⟨b.fro, 0, zh, zh, zh⟩) 1 1 1 _ [num32 b.to] _ rfl rfl rfl (by rw [bcs_len (b := ⟨b.fro, 0, zh, zh, zh⟩) ⟨k.fro, z32, zh_ok, zh_ok, zh_ok⟩]; omega)]
  rw [show lay (bcs ⟨b.fro, 0, zh, zh, zh⟩) 1 [num32 b.to] = bcs ⟨b.fro, b.to, zh, zh, zh⟩ by rw [bcs_app, show (1 : Nat) = 1 + 0 from rfl, lay_skip [num32 b.fro] _ _ _ (m := 1) rfl, lay_head [num32 0] _ [num32 b.to] rfl, bcs_app]]
  rw [fill_step bplaces (bcs ⟨b.fro, b.to, zh, zh, zh⟩) 2 2 32 _ (u8s b.prev) _ rfl rfl (h_len k.prev) (by rw [bcs_len (b := ⟨b.fro, b.to, zh, zh, zh⟩) ⟨k.fro, k.to, zh_ok, zh_ok, zh_ok⟩]; omega)]
  rw [show lay (bcs ⟨b.fro, b.to, zh, zh, zh⟩) 2 (u8s b.prev) = bcs ⟨b.fro, b.to, b.prev, zh, zh⟩ by rw [bcs_app, show (2 : Nat) = 1 + (1 + 0) from rfl, lay_skip [num32 b.fro] _ _ _ (m := 1) rfl, lay_skip [num32 b.to] _ _ _ (m := 1) rfl, lay_head _ _ _ (by rw [h_len k.prev]; rfl), bcs_app]]
  rw [fill_step bplaces (bcs ⟨b.fro, b.to, b.prev, zh, zh⟩) 3 34 32 _ (u8s b.led) _ rfl rfl (h_len k.led) (by rw [bcs_len (b := ⟨b.fro, b.to, b.prev, zh, zh⟩) ⟨k.fro, k.to, k.prev, zh_ok, zh_ok⟩]; omega)]
  rw [show lay (bcs ⟨b.fro, b.to, b.prev, zh, zh⟩) 34 (u8s b.led) = bcs ⟨b.fro, b.to, b.prev, b.led, zh⟩ by rw [bcs_app, show (34 : Nat) = 1 + (1 + (32 + 0)) from rfl, lay_skip [num32 b.fro] _ _ _ (m := 1) rfl, lay_skip [num32 b.to] _ _ _ (m := 1) rfl, lay_skip _ _ _ _ (h_len k.prev), lay_head _ _ _ (by rw [h_len k.led]; rfl), bcs_app]]
  rw [fill_step bplaces (bcs ⟨b.fro, b.to, b.prev, b.led, zh⟩) 4 66 32 _ (u8s b.draw) _ rfl rfl (h_len k.draw) (by rw [bcs_len (b := ⟨b.fro, b.to, b.prev, b.led, zh⟩) ⟨k.fro, k.to, k.prev, k.led, zh_ok⟩]; omega)]
  rw [show lay (bcs ⟨b.fro, b.to, b.prev, b.led, zh⟩) 66 (u8s b.draw) = bcs b by rw [bcs_app, show (66 : Nat) = 1 + (1 + (32 + (32 + 0))) from rfl, lay_skip [num32 b.fro] _ _ _ (m := 1) rfl, lay_skip [num32 b.to] _ _ _ (m := 1) rfl, lay_skip _ _ _ _ (h_len k.prev), lay_skip _ _ _ _ (h_len k.led), lay_head _ _ _ (by rw [h_len k.draw]; rfl), bcs_app]]
  rfl
/-! ### '=='. -/
theorem u8s_int (l : List Nat) : ∀ v ∈ u8s l, ∃ m, v = .int .u8 m := by
  intro v hv
  unfold u8s at hv
  obtain ⟨n, _, rfl⟩ := List.mem_map.1 hv
  exact ⟨_, rfl⟩
set_option maxRecDepth 100000 in
theorem fit_hash (e : Nat) {h : List Nat} (k : H32 h) : Fit Tryz.prog (e + 2) 23 (u8s h) := fit_ints (n := 32) (e := 5) (by kernel_rfl) (by kernel_rfl) (by kernel_rfl) (h_len k) (u8s_int h)
theorem Has.chunk {cs vs : List Value} {o n : Nat} (h : Has cs o vs) (hn : vs.length = n) : chunk cs o n = vs := by
  obtain ⟨p, r, e, hp⟩ := h.ex
  unfold Mem.chunk
  subst e hp hn
  rw [List.drop_left, List.take_left]
set_option maxRecDepth 100000 in
theorem fit_dat (e : Nat) {d : Dat} (k : d.Ok) : Fit Tryz.prog (e + 3) 31 (dcs d) := by
  refine fit_struct [(23, 0), (23, 32), (23, 64), (23, 96), (24, 128)] (by kernel_rfl) (by kernel_rfl) (by kernel_rfl) (n := 129) (by kernel_rfl) (dcs_len k) ?_
  have hd := Has.refl (dcs d)
  have c1 : Tryz.prog.cellsOf 23 = 32 := by kernel_rfl
  have c2 : Tryz.prog.cellsOf 24 = 1 := by kernel_rfl
  intro p hp
  simp only [List.mem_cons, List.not_mem_nil, or_false] at hp
  rcases hp with rfl | rfl | rfl | rfl | rfl
  · rw [c1, (d_led hd).chunk (h_len k.led)]; exact fit_hash e k.led
  · have := (d_seed k hd).chunk (h_len k.seed)
    rw [Nat.zero_add] at this
    rw [c1, this]; exact fit_hash e k.seed
  · have := (d_start k hd).chunk (h_len k.start)
    rw [Nat.zero_add] at this
    rw [c1, this]; exact fit_hash e k.start
  · have := (d_lock k hd).chunk (h_len k.lock)
    rw [Nat.zero_add] at this
    rw [c1, this]; exact fit_hash e k.lock
  · have := (d_len k hd).chunk (n := 1) rfl
    rw [Nat.zero_add] at this
    rw [c2, this]; exact fit_int (by kernel_rfl) _
set_option maxRecDepth 100000 in
theorem fit_rdat (e : Nat) {d : Dat} (k : d.Ok) : Fit Tryz.prog (e + 3) 45 (dcs d) := by
  refine fit_struct [(23, 0), (23, 32), (23, 64), (23, 96), (24, 128)] (by kernel_rfl) (by kernel_rfl) (by kernel_rfl) (n := 129) (by kernel_rfl) (dcs_len k) ?_
  have hd := Has.refl (dcs d)
  have c1 : Tryz.prog.cellsOf 23 = 32 := by kernel_rfl
  have c2 : Tryz.prog.cellsOf 24 = 1 := by kernel_rfl
  intro p hp
  simp only [List.mem_cons, List.not_mem_nil, or_false] at hp
  rcases hp with rfl | rfl | rfl | rfl | rfl
  · rw [c1, (d_led hd).chunk (h_len k.led)]; exact fit_hash e k.led
  · have := (d_seed k hd).chunk (h_len k.seed)
    rw [Nat.zero_add] at this
    rw [c1, this]; exact fit_hash e k.seed
  · have := (d_start k hd).chunk (h_len k.start)
    rw [Nat.zero_add] at this
    rw [c1, this]; exact fit_hash e k.start
  · have := (d_lock k hd).chunk (h_len k.lock)
    rw [Nat.zero_add] at this
    rw [c1, this]; exact fit_hash e k.lock
  · have := (d_len k hd).chunk (n := 1) rfl
    rw [Nat.zero_add] at this
    rw [c2, this]; exact fit_int (by kernel_rfl) _
set_option maxRecDepth 100000 in
theorem fit_pair (e : Nat) {a c : Dat} (k : a.Ok) (j : c.Ok) : Fit Tryz.prog (e + 4) 33 (pcs a c) := by
  refine fit_struct [(31, 0), (31, 129)] (by kernel_rfl) (by kernel_rfl) (by kernel_rfl) (n := 258) (by kernel_rfl) (pcs_len k j) ?_
  have hd := Has.refl (pcs a c)
  have c1 : Tryz.prog.cellsOf 31 = 129 := by kernel_rfl
  intro p hp
  simp only [List.mem_cons, List.not_mem_nil, or_false] at hp
  rcases hp with rfl | rfl
  · rw [c1, (p_now hd).chunk (dcs_len k)]; exact fit_dat e k
  · have := (p_next k hd).chunk (dcs_len j)
    rw [Nat.zero_add] at this
    rw [c1, this]; exact fit_dat e j
set_option maxRecDepth 100000 in
theorem fit_rpair (e : Nat) {a c : Dat} (k : a.Ok) (j : c.Ok) : Fit Tryz.prog (e + 4) 47 (pcs a c) := by
  refine fit_struct [(45, 0), (45, 129)] (by kernel_rfl) (by kernel_rfl) (by kernel_rfl) (n := 258) (by kernel_rfl) (pcs_len k j) ?_
  have hd := Has.refl (pcs a c)
  have c1 : Tryz.prog.cellsOf 45 = 129 := by kernel_rfl
  intro p hp
  simp only [List.mem_cons, List.not_mem_nil, or_false] at hp
  rcases hp with rfl | rfl
  · rw [c1, (p_now hd).chunk (dcs_len k)]; exact fit_rdat e k
  · have := (p_next k hd).chunk (dcs_len j)
    rw [Nat.zero_add] at this
    rw [c1, this]; exact fit_rdat e j
section
variable {o : Oper} {a : Act}
set_option maxRecDepth 100000 in
theorem run_op_eqlDat (d : Dat) (k : d.Ok) (y z : Operand) (t' : TypeId) (ho : o.op = .binOp .eql 31 y z t') (hy : a.eval y = .agg (dcs d).toArray) (hz : a.eval z = .agg (dcs d).toArray) (w : World) : (execOp a.eval o).run Tryz.prog w = .ok (.value (.bool true)) w :=
  run_op_eqlF 31 y z t' ho 3 (by omega) (.struct (Tryz.prog.fieldsOf 31)) (by kernel_rfl) rfl (by kernel_rfl) (dcs d) (dcs d) hy hz (fit_dat 0 k) (fit_dat 0 k) true (by simp) w
set_option maxRecDepth 100000 in
theorem run_op_neqDat (d : Dat) (k : d.Ok) (y z : Operand) (t' : TypeId) (ho : o.op = .binOp .neq 31 y z t') (hy : a.eval y = .agg (dcs d).toArray) (hz : a.eval z = .agg (dcs d).toArray) (w : World) : (execOp a.eval o).run Tryz.prog w = .ok (.value (.bool false)) w :=
  run_op_neqF 31 y z t' ho 3 (by omega) (.struct (Tryz.prog.fieldsOf 31)) (by kernel_rfl) rfl (by kernel_rfl) (dcs d) (dcs d) hy hz (fit_dat 0 k) (fit_dat 0 k) true (by simp) w
set_option maxRecDepth 100000 in
theorem run_op_eqlRDat (d : Dat) (k : d.Ok) (y z : Operand) (t' : TypeId) (ho : o.op = .binOp .eql 45 y z t') (hy : a.eval y = .agg (dcs d).toArray) (hz : a.eval z = .agg (dcs d).toArray) (w : World) : (execOp a.eval o).run Tryz.prog w = .ok (.value (.bool true)) w :=
  run_op_eqlF 45 y z t' ho 3 (by omega) (.struct (Tryz.prog.fieldsOf 45)) (by kernel_rfl) rfl (by kernel_rfl) (dcs d) (dcs d) hy hz (fit_rdat 0 k) (fit_rdat 0 k) true (by simp) w
set_option maxRecDepth 100000 in
theorem run_op_neqRDat (d : Dat) (k : d.Ok) (y z : Operand) (t' : TypeId) (ho : o.op = .binOp .neq 45 y z t') (hy : a.eval y = .agg (dcs d).toArray) (hz : a.eval z = .agg (dcs d).toArray) (w : World) : (execOp a.eval o).run Tryz.prog w = .ok (.value (.bool false)) w :=
  run_op_neqF 45 y z t' ho 3 (by omega) (.struct (Tryz.prog.fieldsOf 45)) (by kernel_rfl) rfl (by kernel_rfl) (dcs d) (dcs d) hy hz (fit_rdat 0 k) (fit_rdat 0 k) true (by simp) w
set_option maxRecDepth 100000 in
theorem run_op_eqlPair (x c : Dat) (k : x.Ok) (j : c.Ok) (y z : Operand) (t' : TypeId) (ho : o.op = .binOp .eql 33 y z t') (hy : a.eval y = .agg (pcs x c).toArray) (hz : a.eval z = .agg (pcs x c).toArray) (w : World) : (execOp a.eval o).run Tryz.prog w = .ok (.value (.bool true)) w :=
  run_op_eqlF 33 y z t' ho 4 (by omega) (.struct (Tryz.prog.fieldsOf 33)) (by kernel_rfl) rfl (by kernel_rfl) (pcs x c) (pcs x c) hy hz (fit_pair 0 k j) (fit_pair 0 k j) true (by simp) w
set_option maxRecDepth 100000 in
theorem run_op_neqPair (x c : Dat) (k : x.Ok) (j : c.Ok) (y z : Operand) (t' : TypeId) (ho : o.op = .binOp .neq 33 y z t') (hy : a.eval y = .agg (pcs x c).toArray) (hz : a.eval z = .agg (pcs x c).toArray) (w : World) : (execOp a.eval o).run Tryz.prog w = .ok (.value (.bool false)) w :=
  run_op_neqF 33 y z t' ho 4 (by omega) (.struct (Tryz.prog.fieldsOf 33)) (by kernel_rfl) rfl (by kernel_rfl) (pcs x c) (pcs x c) hy hz (fit_pair 0 k j) (fit_pair 0 k j) true (by simp) w
set_option maxRecDepth 100000 in
theorem run_op_eqlRPair (x c : Dat) (k : x.Ok) (j : c.Ok) (y z : Operand) (t' : TypeId) (ho : o.op = .binOp .eql 47 y z t') (hy : a.eval y = .agg (pcs x c).toArray) (hz : a.eval z = .agg (pcs x c).toArray) (w : World) : (execOp a.eval o).run Tryz.prog w = .ok (.value (.bool true)) w :=
  run_op_eqlF 47 y z t' ho 4 (by omega) (.struct (Tryz.prog.fieldsOf 47)) (by kernel_rfl) rfl (by kernel_rfl) (pcs x c) (pcs x c) hy hz (fit_rpair 0 k j) (fit_rpair 0 k j) true (by simp) w
set_option maxRecDepth 100000 in
theorem run_op_neqRPair (x c : Dat) (k : x.Ok) (j : c.Ok) (y z : Operand) (t' : TypeId) (ho : o.op = .binOp .neq 47 y z t') (hy : a.eval y = .agg (pcs x c).toArray) (hz : a.eval z = .agg (pcs x c).toArray) (w : World) : (execOp a.eval o).run Tryz.prog w = .ok (.value (.bool false)) w :=
  run_op_neqF 47 y z t' ho 4 (by omega) (.struct (Tryz.prog.fieldsOf 47)) (by kernel_rfl) rfl (by kernel_rfl) (pcs x c) (pcs x c) hy hz (fit_rpair 0 k j) (fit_rpair 0 k j) true (by simp) w
end
end Go.Proofs.YtffpifljeeikfaaGreatDoor.Ep

/-
  The contracts of what changes an epoch's data, and of what puts a block behind a pair (package epoch): a checkpoint that is moved, a later epoch's begin, one block more, a draw that counts. Over this seat's translation.
-/
namespace Go.Proofs.YtffpifljeeikfaaGreatDoor.Ep
open Go.ChangeShapes Go.WideShapes Go.ChangeAt Go.RowKit Go.Proofs.YtffpifljeeikfaaGreatDoor.Mem Go.Proofs.YtffpifljeeikfaaGreatDoor.Bt Go.Proofs.YtffpifljeeikfaaGreatDoor.Sha Go.Proofs.YtffpifljeeikfaaGreatDoor.Tg
set_option linter.unusedVariables false
set_option linter.unusedSimpArgs false

theorem digest_lt (l : List Nat) : AllLt 256 (digest l) := by
  intro x hx
  unfold digest outOf at hx
  obtain ⟨y, _, hy⟩ := List.mem_flatMap.1 hx
  exact bytes4_lt y x hy
theorem tagD_lt (s : ByteArray) (l : List (List Nat)) : AllLt 256 (tagD s l) := by
  unfold tagD; split
  · exact digest_lt _
  · intro x hx; have := List.eq_of_mem_replicate hx; omega
/-- A seed, made of a seed and a draw. -/
def seedN (s x : List Nat) : List Nat := tagD ⟨#[115, 101, 101, 100]⟩ [s, x]
theorem seed_ok (s x : List Nat) : H32 (seedN s x) := ⟨tagD_len _ _, tagD_lt _ _⟩
/-- The data of a later epoch's begin; of one block more; with a draw that counts. -/
def turnD (d : Dat) (b : Blk) : Dat := ⟨b.led, d.seed, b.prev, zh, 1⟩
def moreD (d : Dat) : Dat := ⟨d.led, d.seed, d.start, d.lock, d.len + 1⟩
def lockD (d : Dat) (b : Blk) : Dat := ⟨d.led, seedN d.seed b.draw, d.start, b.prev, d.len⟩
theorem turn_ok {d : Dat} {b : Blk} (k : d.Ok) (j : b.Ok) : (turnD d b).Ok := ⟨j.led, k.seed, j.prev, zh_ok, (by decide : 1 < 4294967296)⟩
theorem more_ok {d : Dat} (k : d.Ok) (h : d.len + 1 < 4294967296) : (moreD d).Ok := ⟨k.led, k.seed, k.start, k.lock, h⟩
theorem lock_ok {d : Dat} {b : Blk} (k : d.Ok) (j : b.Ok) : (lockD d b).Ok := ⟨k.led, seed_ok _ _, k.start, j.prev, k.len⟩
theorem run_two (p q : Option Addr) (n m c e : Nat) (w : World) : (Instr.buildSlice 123 2 #[(0, .slice p n c), (1, .slice q m e)]).run Tryz.prog w = .ok (.slice (some ⟨w.heap.size, 0, none⟩) 2 2) (w.alloc (.cells #[.slice p n c, .slice q m e] 103)) := by kernel_rfl
theorem run_op_two {o : Oper} {a : Act} (x y : Operand) (ho : o.op = .buildSlice 123 2 #[(0, x), (1, y)]) (p q : Option Addr) (n m c e : Nat) (hx : a.eval x = .slice p n c) (hy : a.eval y = .slice q m e) (w : World) :
    (execOp a.eval o).run Tryz.prog w = .ok (.value (.slice (some ⟨w.heap.size, 0, none⟩) 2 2)) (w.alloc (.cells #[.slice p n c, .slice q m e] 103)) := by
  unfold execOp
  simp only [ho, List.map_toArray, List.map_cons, List.map_nil, hx, hy, Sem.run_bind, run_two, Result.andThen_ok, Sem.run_pure]
theorem came_at {w : World} {b o : Nat} {h : List Nat} (hr : w.rangeAt b o (u8s h)) (k : H32 h) : Came w (some ⟨b, o, none⟩) 32 h :=
  ⟨by have := k.len; omega, fun e => (by cases e), fun _ => ⟨b, o, rfl, hr⟩, k.lt, by unfold maxLen; omega⟩
/-- A row of two digests' bytes. -/
theorem parts_hh {w : World} {b : Nat} {p q : Option Addr} {h g : List Nat} (hr : Row w b 103 [.slice p 32 32, .slice q 32 32]) (hc : Came w p 32 h) (hd : Came w q 32 g) (k : H32 h) (j : H32 g) : Parts w (some ⟨b, 0, none⟩) [h, g] :=
  ⟨fun _ => ⟨b, 0, rfl, hr.lt, fun i hi => by
    have hi' : i < 2 := hi
    obtain rfl | rfl : i = 0 ∨ i = 1 := by omega
    · exact ⟨p, 32, by show _ = some (Value.slice p h.length 32); rw [k.len]; exact hr.cell rfl, hc⟩
    · exact ⟨q, 32, by show _ = some (Value.slice q g.length 32); rw [j.len]; exact hr.cell rfl, hd⟩⟩⟩
theorem add1_fits (n : Nat) (w : World) (h : n + 1 < 4294967296) :
    Calls Tryz.prog 50 #[.int .u32 (n : Int), .int .u32 1] w fun e w' => e = .returned (.tuple #[.int .u32 ((n + 1 : Nat) : Int), .bool true]) ∧ Below w.heap.size w w' := by
  have hi : Num.in32 ((n : Int) + 1) = true := by unfold Num.in32; simp; omega
  have hk : Num.keep32 ((n : Int) + 1) = ((n + 1 : Nat) : Int) := by unfold Num.keep32; rw [if_pos hi]; omega
  have h := Slot.add32B_any (n : Int) 1 w (by omega) (by omega) (by omega) (by omega)
  rw [hi, hk] at h
  exact h
theorem add1_over (w : World) :
    Calls Tryz.prog 50 #[.int .u32 4294967295, .int .u32 1] w fun e w' => e = .returned (.tuple #[.int .u32 0, .bool false]) ∧ Below w.heap.size w w' := by
  have hi : Num.in32 (4294967295 + 1) = false := by unfold Num.in32; simp
  have h := Slot.add32B_any 4294967295 1 w (by omega) (by omega) (by omega) (by omega)
  rw [hi, Slot.keep32_no0 hi] at h
  exact h
set_option maxHeartbeats 4000000 in
set_option maxRecDepth 100000 in
theorem point_any (M off : Nat) (u : TypeId) (cs : List Value) (c x : List Nat) (w : World) (hr : Row w M u cs) (hc : Has cs off (u8s c)) (kc : H32 c) (kx : H32 x) :
    Calls Tryz.prog 94 #[.pointer (some ⟨M, off, none⟩), .agg (u8s x).toArray] w fun e w' => e = .returned (.tuple #[]) ∧ Row w' M u (lay cs off (u8s x)) ∧ Only M w w' := by
  have HC := Lib.hid hc; have KC := Lib.hid kc; have KX := Lib.hid kx
  have HSM := Lib.hid (fun h : c = x => by subst h; exact hc.same : c = x → lay cs off (u8s x) = cs)
  have HLE := Lib.hid (show off + (u8s x).length ≤ cs.length by have := hc.le; rw [h_len kc] at this; rw [h_len kx]; exact this)
  clear hc kc kx
  obtain ⟨bb, hbb⟩ : ∃ bb, bb = !decide (c = x) := ⟨_, rfl⟩
  have HB := Lib.hid hbb
  clear hbb
  go_enter Tryz.func94, Tryz.ntmps94
  go_wp2_with (first
    | ((with_reducible refine at_slot 3 ?_); (refine arm_box (o := ⟨some 3, _, _, _, _, _⟩) rfl _ _ rfl (u8s x) rfl ?_); intro X w1 Xe hw1 nw1))
  have rM1 := hr.old nw1.below
  have belM : Only M w w1 := Only.of_below M nw1.below
  clear nw1 Xe
  refine wp_region_held (S := fun w' => Row w' M u cs ∧ Row w' X 23 (u8s x)) (by kernel_rfl) ?_
  change wpAnyH _ _ _ _ _ _ _ _ w1.drew
  have rMz : Row w1.drew M u cs := rM1
  have rXz : Row w1.drew X 23 (u8s x) := hw1
  have oz : Only M w w1.drew := belM.trans (Only.drewN M w1 1)
  generalize w1.drew = wz at rMz rXz oz ⊢
  have hS : (fun w' => Row w' M u cs ∧ Row w' X 23 (u8s x)) wz := ⟨rMz, rXz⟩
  refine h_take 0 (.pointer (some ⟨M, off, none⟩)) rfl 4 rfl (by kernel_rfl) (by kernel_rfl) (by kernel_rfl) (by kernel_rfl) (fun _ _ _ h => h) (fun w' _ => by kernel_rfl) hS ?_
  simp only [Act.put, List.setIfInBounds_toArray, List.set_cons_zero, List.set_cons_succ]
  refine h_take 1 (.pointer (some ⟨M, off, none⟩)) rfl 5 rfl (by kernel_rfl) (by kernel_rfl) (by kernel_rfl) (by kernel_rfl) (fun _ _ _ h => h) (fun w' _ => by kernel_rfl) hS ?_
  simp only [Act.put, List.setIfInBounds_toArray, List.set_cons_zero, List.set_cons_succ]
  refine h_take 2 (.agg (u8s c).toArray) rfl 6 rfl (by kernel_rfl) (by kernel_rfl) (by kernel_rfl) (by kernel_rfl) (fun _ _ _ h => h) (fun w' h => run_op_load _ _ rfl M off rfl (u8s c) (HC.out.range h.1) (szH KC.out)) hS ?_
  simp only [Act.put, List.setIfInBounds_toArray, List.set_cons_zero, List.set_cons_succ]
  refine h_take 3 (.agg (u8s x).toArray) rfl 7 rfl (by kernel_rfl) (by kernel_rfl) (by kernel_rfl) (by kernel_rfl) (fun _ _ _ h => h) (fun w' h => run_op_load _ _ rfl X 0 rfl (u8s x) ((Has.refl _).range h.2) (szH KX.out)) hS ?_
  simp only [Act.put, List.setIfInBounds_toArray, List.set_cons_zero, List.set_cons_succ]
  refine h_take 4 (.bool bb) rfl 8 rfl (by kernel_rfl) (by kernel_rfl) (by kernel_rfl) (by kernel_rfl) (fun _ _ _ h => h) (fun w' _ => by rw [HB.out]; exact run_op_neq2 _ _ _ rfl c x KC.out.len KX.out.len rfl rfl w') hS ?_
  simp only [Act.put, List.setIfInBounds_toArray, List.set_cons_zero, List.set_cons_succ]
  refine wpAnyH_done (by kernel_rfl) ?_ _
  clear hS
  cases bb
  · have e : c = x := by have := HB.out; simpa using this.symm
    go_wp2_with fail
    go_end0
    exact ⟨rfl, by rw [HSM.out e]; exact rMz, oz⟩
  · clear HB
    go_wp2_with (first
      | ((with_reducible refine at_slot 10 ?_); (refine arm_load (o := ⟨some 10, _, _, _, _, _⟩) rfl _ _ rfl X 0 rfl (u8s x) ((Has.refl _).range rXz) (szH KX.out) ?_))
      | ((with_reducible refine arm_store (o := ⟨none, _, _, _, _, _⟩) rfl _ _ _ rfl M off rfl (u8s x) rfl _ _ (rMz) HLE.out (u8s_one _) (szH KX.out) ?_); intro w3 hw3 ow3 sw3))
    go_end0
    exact ⟨rfl, hw3, oz.trans ow3⟩
set_option maxHeartbeats 4000000 in
set_option maxRecDepth 100000 in
theorem begin_any (M : Nat) (u : TypeId) (d : Dat) (r : List Value) (b : Blk) (w : World) (hr : Row w M u (dcs d ++ r)) (k : d.Ok) (j : b.Ok) :
    Calls Tryz.prog 75 #[.pointer (some ⟨M, 0, none⟩), .agg (bcs b).toArray] w fun e w' => e = .returned (.tuple #[]) ∧ Row w' M u (dcs (turnD d b) ++ r) ∧ Only M w w' := by
  obtain ⟨d1, hd1⟩ : ∃ d1 : Dat, d1 = ⟨b.led, d.seed, d.start, d.lock, d.len⟩ := ⟨_, rfl⟩
  obtain ⟨d2, hd2⟩ : ∃ d2 : Dat, d2 = ⟨b.led, d.seed, d.start, d.lock, 1⟩ := ⟨_, rfl⟩
  obtain ⟨d3, hd3⟩ : ∃ d3 : Dat, d3 = ⟨b.led, d.seed, b.prev, d.lock, 1⟩ := ⟨_, rfl⟩
  have K := Lib.hid k; have J := Lib.hid j
  have K1 := Lib.hid (show d1.Ok by rw [hd1]; exact ⟨j.led, k.seed, k.start, k.lock, k.len⟩)
  have K2 := Lib.hid (show d2.Ok by rw [hd2]; exact ⟨j.led, k.seed, k.start, k.lock, (by decide : 1 < 4294967296)⟩)
  have K3 := Lib.hid (show d3.Ok by rw [hd3]; exact ⟨j.led, k.seed, j.prev, k.lock, (by decide : 1 < 4294967296)⟩)
  have L1 := Lib.hid (show lay (dcs d ++ r) 0 (u8s b.led) = dcs d1 ++ r by rw [hd1]; exact lay_led k j.led r)
  have L2 := Lib.hid (show (dcs d1 ++ r).set 128 (.int .u32 1) = dcs d2 ++ r by rw [hd2]; subst hd1; exact set_len K1.out 1 r)
  have L3 := Lib.hid (show lay (dcs d2 ++ r) 64 (u8s b.prev) = dcs d3 ++ r by rw [hd3]; subst hd2; exact lay_start K2.out j.prev r)
  have L4 := Lib.hid (show lay (dcs d3 ++ r) 96 (u8s zh) = dcs (turnD d b) ++ r by subst hd3; exact lay_lock K3.out zh_ok r)
  have A2 := Lib.hid (show Has (dcs d2 ++ r) 64 (u8s d2.start) from Nat.zero_add 64 ▸ d_start K2.out (Has.refl (dcs d2 ++ r)).left)
  have A3 := Lib.hid (show Has (dcs d3 ++ r) 96 (u8s d3.lock) from Nat.zero_add 96 ▸ d_lock K3.out (Has.refl (dcs d3 ++ r)).left)
  have G0 := Lib.hid (show 0 + (u8s b.led).length ≤ (dcs d ++ r).length by rw [h_len j.led, List.length_append, dcs_len k]; omega)
  have G1 := Lib.hid (show 128 < (dcs d1 ++ r).length by rw [List.length_append, dcs_len K1.out]; omega)
  clear hd1 hd2 hd3 k j
  go_enter Tryz.func75, Tryz.ntmps75
  go_wp2_with (first
    | ((with_reducible refine at_slot 3 ?_); (refine arm_box (o := ⟨some 3, _, _, _, _, _⟩) rfl _ _ rfl (bcs b) rfl ?_); intro X w1 Xe hw1 nw1)
    | ((with_reducible refine at_slot 7 ?_); (refine arm_load (o := ⟨some 7, _, _, _, _, _⟩) rfl _ _ rfl X 34 rfl (u8s b.led) ((show Has (bcs b) 34 (u8s b.led) from b_led J.out (Has.refl (bcs b))).range hw1) (szH J.out.led) ?_))
    | ((with_reducible refine arm_store (o := ⟨none, _, _, _, _, _⟩) rfl _ _ _ rfl M 0 rfl (u8s b.led) rfl _ _ (hr.old nw1.below) G0.out (u8s_one _) (szH J.out.led) ?_); intro w2 hw2 ow2 sw2)
    | ((with_reducible refine arm_store1 (o := ⟨none, _, _, _, _, _⟩) rfl _ _ _ rfl M 128 rfl .u32 1 rfl (by kernel_rfl) _ _ (hw2.congr L1.out) G1.out ?_); intro w3 hw3 ow3 sw3))
  have rM3 := hw3.congr L2.out
  have e1 := Xe.out
  have hXM : X ≠ M := by have := hr.lt; omega
  have rX3 := (hw1.only ow2 hXM).only ow3 hXM
  have o3 : Only M w w3 := ((Only.of_below M nw1.below).trans ow2).trans ow3
  clear e1 Xe hw1 nw1 hw2 ow2 sw2 hw3 ow3 sw3 G0 G1 L1 L2 hr
  refine wp_region_held (S := fun w' => Row w' X 90 (bcs b)) (by kernel_rfl) ?_
  change wpAnyH _ _ _ _ _ _ _ _ w3.drew
  have rMz : Row w3.drew M u (dcs d2 ++ r) := rM3
  have rXz : Row w3.drew X 90 (bcs b) := rX3
  have oz : Only M w w3.drew := o3.trans (Only.drewN M w3 1)
  generalize w3.drew = wz at rMz rXz oz ⊢
  have hS : (fun w' => Row w' X 90 (bcs b)) wz := rXz
  refine h_take 0 (.pointer (some ⟨M, 0, none⟩)) rfl 12 rfl (by kernel_rfl) (by kernel_rfl) (by kernel_rfl) (by kernel_rfl) (fun _ _ _ h => h) (fun w' _ => by kernel_rfl) hS ?_
  simp only [Act.put, List.setIfInBounds_toArray, List.set_cons_zero, List.set_cons_succ]
  refine h_take 1 (.pointer (some ⟨M, 0, none⟩)) rfl 13 rfl (by kernel_rfl) (by kernel_rfl) (by kernel_rfl) (by kernel_rfl) (fun _ _ _ h => h) (fun w' _ => by kernel_rfl) hS ?_
  simp only [Act.put, List.setIfInBounds_toArray, List.set_cons_zero, List.set_cons_succ]
  refine h_take 2 (.pointer (some ⟨M, 64, none⟩)) rfl 14 rfl (by kernel_rfl) (by kernel_rfl) (by kernel_rfl) (by kernel_rfl) (fun _ _ _ h => h) (fun w' _ => by kernel_rfl) hS ?_
  simp only [Act.put, List.setIfInBounds_toArray, List.set_cons_zero, List.set_cons_succ]
  refine h_take 3 (.pointer (some ⟨X, 2, none⟩)) rfl 15 rfl (by kernel_rfl) (by kernel_rfl) (by kernel_rfl) (by kernel_rfl) (fun _ _ _ h => h) (fun w' _ => by kernel_rfl) hS ?_
  simp only [Act.put, List.setIfInBounds_toArray, List.set_cons_zero, List.set_cons_succ]
  refine h_take 4 (.agg (u8s b.prev).toArray) rfl 16 rfl (by kernel_rfl) (by kernel_rfl) (by kernel_rfl) (by kernel_rfl) (fun _ _ _ h => h) (fun w' h => run_op_load _ _ rfl X 2 rfl (u8s b.prev) ((show Has (bcs b) 2 (u8s b.prev) from b_prev (Has.refl (bcs b))).range h) (szH J.out.prev)) hS ?_
  simp only [Act.put, List.setIfInBounds_toArray, List.set_cons_zero, List.set_cons_succ]
  refine h_one (i := 5) (by kernel_rfl) (o_call rfl 17 rfl (by kernel_rfl) (run_op_call 94 _ _ rfl #[.pointer (some ⟨M, 64, none⟩), .agg (u8s b.prev).toArray] (by simp only [List.map_toArray, List.map_cons, List.map_nil]; rfl) Tryz.func94 (by kernel_rfl) (by kernel_rfl) _) (point_any M 64 u _ _ b.prev _ rMz A2.out K2.out.start J.out.prev) ?_)
  rintro e y ⟨rfl, hRy, hOy⟩
  refine ⟨_, rfl, rXz.only hOy hXM, ?_⟩
  simp only [Act.put, List.setIfInBounds_toArray, List.set_cons_zero, List.set_cons_succ]
  refine wpAnyH_done (by kernel_rfl) ?_ _
  clear hS
  have oy := oz.trans hOy
  have rMy := hRy.congr L3.out
  clear hOy hRy rMz oz rXz
  go_wp2_with (first
    | ((with_reducible refine at_slot 21 ?_); (refine arm_build (o := ⟨some 21, _, _, _, _, _⟩) rfl _ _ rfl (u8s zh) (by kernel_rfl) ?_)))
  refine (point_any M 96 u _ _ zh _ rMy A3.out K3.out.lock zh_ok).mono ?_
  rintro e yf ⟨rfl, hRf, hOf⟩
  go_wp2_with fail
  go_end0
  exact ⟨rfl, hRf.congr L4.out, oy.trans hOf⟩
set_option maxHeartbeats 4000000 in
set_option maxRecDepth 100000 in
theorem lengthen_any (M : Nat) (u : TypeId) (d : Dat) (r : List Value) (w : World) (hr : Row w M u (dcs d ++ r)) (k : d.Ok) (h : d.len + 1 < 4294967296) :
    Calls Tryz.prog 76 #[.pointer (some ⟨M, 0, none⟩)] w fun e w' => e = .returned (.int .i64 0) ∧ Row w' M u (dcs (moreD d) ++ r) ∧ Only M w w' := by
  have hcell : w.cell? ⟨M, 128, none⟩ = some (.int .u32 (d.len : Int)) := hr.cell (show Has (dcs d ++ r) 128 [num32 d.len] from Nat.zero_add 128 ▸ d_len k (Has.refl (dcs d ++ r)).left).get
  have CA := fun w0 => Lib.hid (add1_fits d.len w0 h)
  have L1 := Lib.hid (show (dcs d ++ r).set 128 (.int .u32 ((d.len + 1 : Nat) : Int)) = dcs (moreD d) ++ r from set_len k (d.len + 1) r)
  have G1 := Lib.hid (show 128 < (dcs d ++ r).length by rw [List.length_append, dcs_len k]; omega)
  generalize d.len + 1 = m at CA L1 h
  generalize d.len = n at hcell CA
  clear k
  go_enter Tryz.func76, Tryz.ntmps76
  go_wp2_with fail
  refine (CA _).out.mono ?_
  rintro e w1 ⟨rfl, hB1⟩
  have rM1 := hr.old hB1
  have o1 : Only M w w1 := Only.of_below M hB1
  clear hB1
  go_wp2_with (first
    | ((with_reducible refine arm_store1 (o := ⟨none, _, _, _, _, _⟩) rfl _ _ _ rfl M 128 rfl .u32 (m : Int) rfl (by kernel_rfl) _ _ rM1 G1.out ?_); intro w3 hw3 ow3 sw3))
  go_ret
  exact ⟨rfl, hw3.congr L1.out, o1.trans ow3⟩
set_option maxHeartbeats 4000000 in
set_option maxRecDepth 100000 in
theorem lengthen_over (M : Nat) (u : TypeId) (d : Dat) (r : List Value) (w : World) (hr : Row w M u (dcs d ++ r)) (k : d.Ok) (h : d.len = 4294967295) :
    Calls Tryz.prog 76 #[.pointer (some ⟨M, 0, none⟩)] w fun e w' => e = .returned (.int .i64 5) ∧ Row w' M u (dcs d ++ r) ∧ Only M w w' := by
  have hcell : w.cell? ⟨M, 128, none⟩ = some (.int .u32 4294967295) := by
    have := hr.cell (show Has (dcs d ++ r) 128 [num32 d.len] from Nat.zero_add 128 ▸ d_len k (Has.refl (dcs d ++ r)).left).get
    rw [h] at this
    exact this
  clear k h
  go_enter Tryz.func76, Tryz.ntmps76
  go_wp2_with fail
  refine (add1_over _).mono ?_
  rintro e w1 ⟨rfl, hB1⟩
  go_wp2_with fail
  go_ret
  exact ⟨rfl, hr.old hB1, Only.of_below M hB1⟩
set_option maxHeartbeats 4000000 in
set_option maxRecDepth 100000 in
theorem lock_any (M : Nat) (u : TypeId) (d : Dat) (r : List Value) (b : Blk) (w : World) (hr : Row w M u (dcs d ++ r)) (k : d.Ok) (j : b.Ok) (hk : w.rangeAt 0 0 (u32s ks)) (hM : M ≠ 0) :
    Calls Tryz.prog 77 #[.pointer (some ⟨M, 0, none⟩), .agg (bcs b).toArray] w fun e w' => e = .returned (.tuple #[]) ∧ Row w' M u (dcs (lockD d b) ++ r) ∧ Only M w w' := by
  obtain ⟨sd, hsd⟩ : ∃ sd, sd = seedN d.seed b.draw := ⟨_, rfl⟩
  obtain ⟨d1, hd1⟩ : ∃ d1 : Dat, d1 = ⟨d.led, sd, d.start, d.lock, d.len⟩ := ⟨_, rfl⟩
  have HSD := Lib.hid hsd
  have KS := Lib.hid (show H32 sd by rw [hsd]; exact seed_ok _ _)
  have K := Lib.hid k; have J := Lib.hid j
  have K1 := Lib.hid (show d1.Ok by rw [hd1]; exact ⟨k.led, KS.out, k.start, k.lock, k.len⟩)
  have L1 := Lib.hid (show lay (dcs d ++ r) 32 (u8s sd) = dcs d1 ++ r by rw [hd1]; exact lay_seed k KS.out r)
  have L2 := Lib.hid (show lay (dcs d1 ++ r) 96 (u8s b.prev) = dcs (lockD d b) ++ r by subst hd1; subst hsd; exact lay_lock K1.out j.prev r)
  have A0 := Lib.hid (show Has (dcs d ++ r) 32 (u8s d.seed) from Nat.zero_add 32 ▸ d_seed k (Has.refl (dcs d ++ r)).left)
  have A1 := Lib.hid (show Has (dcs d1 ++ r) 96 (u8s d1.lock) from Nat.zero_add 96 ▸ d_lock K1.out (Has.refl (dcs d1 ++ r)).left)
  have G0 := Lib.hid (show 32 + (u8s sd).length ≤ (dcs d ++ r).length by rw [h_len KS.out, List.length_append, dcs_len k]; omega)
  have HK := Lib.hid hk
  have hk1 : 0 < w.heap.size := range_lt hk (by simp [u32s, ks])
  clear hd1 hsd k j hk
  go_enter Tryz.func77, Tryz.ntmps77
  go_wp2_with (first
    | ((with_reducible refine at_slot 3 ?_); (refine arm_box (o := ⟨some 3, _, _, _, _, _⟩) rfl _ _ rfl (bcs b) rfl ?_); intro X w1 Xe hw1 nw1))
  have e1 := Xe.out
  have hXM : X ≠ M := by have := hr.lt; omega
  have rM1 := hr.old nw1.below
  have o1 : Only M w w1 := Only.of_below M nw1.below
  clear e1 Xe nw1 hr
  refine wp_region_held (S := fun w' => True) (by kernel_rfl) ?_
  change wpAnyH _ _ _ _ _ _ _ _ w1.drew
  have rMz : Row w1.drew M u (dcs d ++ r) := rM1
  have rXz : Row w1.drew X 90 (bcs b) := hw1
  have oz : Only M w w1.drew := o1.trans (Only.drewN M w1 1)
  generalize w1.drew = wz at rMz rXz oz ⊢
  have hS : (fun w' => True) wz := trivial
  refine h_take 0 (.pointer (some ⟨M, 0, none⟩)) rfl 4 rfl (by kernel_rfl) (by kernel_rfl) (by kernel_rfl) (by kernel_rfl) (fun _ _ _ h => h) (fun w' _ => by kernel_rfl) hS ?_
  simp only [Act.put, List.setIfInBounds_toArray, List.set_cons_zero, List.set_cons_succ]
  refine h_take 1 (.pointer (some ⟨M, 0, none⟩)) rfl 5 rfl (by kernel_rfl) (by kernel_rfl) (by kernel_rfl) (by kernel_rfl) (fun _ _ _ h => h) (fun w' _ => by kernel_rfl) hS ?_
  simp only [Act.put, List.setIfInBounds_toArray, List.set_cons_zero, List.set_cons_succ]
  refine h_take 2 (.pointer (some ⟨M, 0, none⟩)) rfl 6 rfl (by kernel_rfl) (by kernel_rfl) (by kernel_rfl) (by kernel_rfl) (fun _ _ _ h => h) (fun w' _ => by kernel_rfl) hS ?_
  simp only [Act.put, List.setIfInBounds_toArray, List.set_cons_zero, List.set_cons_succ]
  refine h_take 3 (.pointer (some ⟨M, 32, none⟩)) rfl 7 rfl (by kernel_rfl) (by kernel_rfl) (by kernel_rfl) (by kernel_rfl) (fun _ _ _ h => h) (fun w' _ => by kernel_rfl) hS ?_
  simp only [Act.put, List.setIfInBounds_toArray, List.set_cons_zero, List.set_cons_succ]
  refine h_take 4 (.slice (some ⟨M, 32, none⟩) 32 32) rfl 8 rfl (by kernel_rfl) (by kernel_rfl) (by kernel_rfl) (by kernel_rfl) (fun _ _ _ h => h) (fun w' _ => run_op_sliceAll _ _ rfl 32 5 (by kernel_rfl) (by kernel_rfl) M 32 rfl (by omega) w') hS ?_
  simp only [Act.put, List.setIfInBounds_toArray, List.set_cons_zero, List.set_cons_succ]
  refine h_take 5 (.pointer (some ⟨X, 66, none⟩)) rfl 9 rfl (by kernel_rfl) (by kernel_rfl) (by kernel_rfl) (by kernel_rfl) (fun _ _ _ h => h) (fun w' _ => by kernel_rfl) hS ?_
  simp only [Act.put, List.setIfInBounds_toArray, List.set_cons_zero, List.set_cons_succ]
  refine h_take 6 (.slice (some ⟨X, 66, none⟩) 32 32) rfl 10 rfl (by kernel_rfl) (by kernel_rfl) (by kernel_rfl) (by kernel_rfl) (fun _ _ _ h => h) (fun w' _ => run_op_sliceAll _ _ rfl 32 5 (by kernel_rfl) (by kernel_rfl) X 66 rfl (by omega) w') hS ?_
  simp only [Act.put, List.setIfInBounds_toArray, List.set_cons_zero, List.set_cons_succ]
  refine h_one (i := 7) (by kernel_rfl) (o_value _ rfl 11 rfl (by kernel_rfl) (run_op_two _ _ rfl (some ⟨M, 32, none⟩) (some ⟨X, 66, none⟩) 32 32 32 32 rfl rfl _) ?_)
  have hN := new_alloc wz (.cells #[.slice (some ⟨M, 32, none⟩) 32 32, .slice (some ⟨X, 66, none⟩) 32 32] 103)
  have rP : Row (wz.alloc (.cells #[.slice (some ⟨M, 32, none⟩) 32 32, .slice (some ⟨X, 66, none⟩) 32 32] 103)) wz.heap.size 103 [.slice (some ⟨M, 32, none⟩) 32 32, .slice (some ⟨X, 66, none⟩) 32 32] := heap_alloc_new _ _
  generalize wz.alloc (.cells #[.slice (some ⟨M, 32, none⟩) 32 32, .slice (some ⟨X, 66, none⟩) 32 32] 103) = y1 at hN rP ⊢
  have rMy := rMz.old hN.below; have rXy := rXz.old hN.below
  have oy : Only M w y1 := oz.trans (Only.of_below M hN.below)
  have hpt : Parts y1 (some ⟨wz.heap.size, 0, none⟩) [d.seed, b.draw] := parts_hh rP (came_at (A0.out.range rMy) K.out.seed) (came_at ((show Has (bcs b) 66 (u8s b.draw) from b_draw J.out (Has.refl (bcs b))).range rXy) J.out.draw) K.out.seed J.out.draw
  refine ⟨trivial, ?_⟩
  simp only [Act.put, List.setIfInBounds_toArray, List.set_cons_zero, List.set_cons_succ]
  clear hN rMz rXz oz rP
  generalize wz.heap.size = P at hpt ⊢
  refine h_one (i := 8) (by kernel_rfl) (o_call rfl 12 rfl (by kernel_rfl) (run_op_call 48 _ _ rfl #[.string ⟨#[115, 101, 101, 100]⟩, .slice (some ⟨P, 0, none⟩) 2 2] (by simp only [List.map_toArray, List.map_cons, List.map_nil]; rfl) Tryz.func48 (by kernel_rfl) (by kernel_rfl) _) (tagOf_any ⟨#[115, 101, 101, 100]⟩ [d.seed, b.draw] (some ⟨P, 0, none⟩) 2 y1 (by simp [total, K.out.seed.len, J.out.draw.len]) hpt (range_block HK.out (oy.block _ hk1 (Ne.symm hM)))) ?_)
  rw [show tagD ⟨#[115, 101, 101, 100]⟩ [d.seed, b.draw] = sd from HSD.out.symm]
  rintro e y2 ⟨rfl, hB2⟩
  have rMy2 := rMy.old hB2; have rXy2 := rXy.old hB2
  have oy2 : Only M w y2 := oy.trans (Only.of_below M hB2)
  clear hB2 hpt rMy rXy oy
  refine ⟨_, rfl, trivial, ?_⟩
  simp only [Act.put, List.setIfInBounds_toArray, List.set_cons_zero, List.set_cons_succ]
  refine h_take 9 (.pointer (some ⟨M, 0, none⟩)) rfl 13 rfl (by kernel_rfl) (by kernel_rfl) (by kernel_rfl) (by kernel_rfl) (fun _ _ _ h => h) (fun w' _ => by kernel_rfl) trivial ?_
  simp only [Act.put, List.setIfInBounds_toArray, List.set_cons_zero, List.set_cons_succ]
  refine h_take 10 (.pointer (some ⟨M, 32, none⟩)) rfl 14 rfl (by kernel_rfl) (by kernel_rfl) (by kernel_rfl) (by kernel_rfl) (fun _ _ _ h => h) (fun w' _ => by kernel_rfl) trivial ?_
  simp only [Act.put, List.setIfInBounds_toArray, List.set_cons_zero, List.set_cons_succ]
  refine h_one (i := 11) (by kernel_rfl) (o_skip rfl rfl (by kernel_rfl) (run_op_store _ _ _ rfl M 32 rfl (u8s sd) rfl _ _ rMy2 G0.out (u8s_one _) (szH KS.out)) ?_)
  have rMf := row_setRow rMy2 (lay (dcs d ++ r) 32 (u8s sd))
  have oMf := Only.setRow M y2 (lay (dcs d ++ r) 32 (u8s sd)).toArray
  generalize y2.setRow M (lay (dcs d ++ r) 32 (u8s sd)).toArray = y3 at rMf oMf ⊢
  refine ⟨trivial, ?_⟩
  have rM3 := rMf.congr L1.out; have rX3 := rXy2.only oMf hXM; have o3 := oy2.trans oMf
  clear rMf oMf rMy2 rXy2 oy2 L1 HSD
  refine wpAnyH_done (by kernel_rfl) ?_ _
  go_wp2_with fail
  refine wp_region_held (S := fun w' => Row w' X 90 (bcs b)) (by kernel_rfl) ?_
  change wpAnyH _ _ _ _ _ _ _ _ y3.drew
  have rMz : Row y3.drew M u (dcs d1 ++ r) := rM3
  have rXz : Row y3.drew X 90 (bcs b) := rX3
  have oz : Only M w y3.drew := o3.trans (Only.drewN M y3 1)
  generalize y3.drew = wz at rMz rXz oz ⊢
  have hS : (fun w' => Row w' X 90 (bcs b)) wz := rXz
  refine h_take 0 (.pointer (some ⟨M, 0, none⟩)) rfl 15 rfl (by kernel_rfl) (by kernel_rfl) (by kernel_rfl) (by kernel_rfl) (fun _ _ _ h => h) (fun w' _ => by kernel_rfl) hS ?_
  simp only [Act.put, List.setIfInBounds_toArray, List.set_cons_zero, List.set_cons_succ]
  refine h_take 1 (.pointer (some ⟨M, 0, none⟩)) rfl 16 rfl (by kernel_rfl) (by kernel_rfl) (by kernel_rfl) (by kernel_rfl) (fun _ _ _ h => h) (fun w' _ => by kernel_rfl) hS ?_
  simp only [Act.put, List.setIfInBounds_toArray, List.set_cons_zero, List.set_cons_succ]
  refine h_take 2 (.pointer (some ⟨M, 96, none⟩)) rfl 17 rfl (by kernel_rfl) (by kernel_rfl) (by kernel_rfl) (by kernel_rfl) (fun _ _ _ h => h) (fun w' _ => by kernel_rfl) hS ?_
  simp only [Act.put, List.setIfInBounds_toArray, List.set_cons_zero, List.set_cons_succ]
  refine h_take 3 (.pointer (some ⟨X, 2, none⟩)) rfl 18 rfl (by kernel_rfl) (by kernel_rfl) (by kernel_rfl) (by kernel_rfl) (fun _ _ _ h => h) (fun w' _ => by kernel_rfl) hS ?_
  simp only [Act.put, List.setIfInBounds_toArray, List.set_cons_zero, List.set_cons_succ]
  refine h_take 4 (.agg (u8s b.prev).toArray) rfl 19 rfl (by kernel_rfl) (by kernel_rfl) (by kernel_rfl) (by kernel_rfl) (fun _ _ _ h => h) (fun w' h => run_op_load _ _ rfl X 2 rfl (u8s b.prev) ((show Has (bcs b) 2 (u8s b.prev) from b_prev (Has.refl (bcs b))).range h) (szH J.out.prev)) hS ?_
  simp only [Act.put, List.setIfInBounds_toArray, List.set_cons_zero, List.set_cons_succ]
  refine h_one (i := 5) (by kernel_rfl) (o_call rfl 20 rfl (by kernel_rfl) (run_op_call 94 _ _ rfl #[.pointer (some ⟨M, 96, none⟩), .agg (u8s b.prev).toArray] (by simp only [List.map_toArray, List.map_cons, List.map_nil]; rfl) Tryz.func94 (by kernel_rfl) (by kernel_rfl) _) (point_any M 96 u _ _ b.prev _ rMz A1.out K1.out.lock J.out.prev) ?_)
  rintro e y ⟨rfl, hRy, hOy⟩
  refine ⟨_, rfl, rXz.only hOy hXM, ?_⟩
  simp only [Act.put, List.setIfInBounds_toArray, List.set_cons_zero, List.set_cons_succ]
  refine wpAnyH_done (by kernel_rfl) ?_ _
  clear hS
  go_wp2_with fail
  go_end0
  exact ⟨rfl, hRy.congr L2.out, oz.trans hOy⟩
end Go.Proofs.YtffpifljeeikfaaGreatDoor.Ep

/-
  The contracts of package epoch: what puts a block behind a pair, First and Follow. Over this seat's translation.
-/
namespace Go.Proofs.YtffpifljeeikfaaGreatDoor.Ep
open Go.ChangeShapes Go.WideShapes Go.ChangeAt Go.RowKit Go.Proofs.YtffpifljeeikfaaGreatDoor.Mem Go.Proofs.YtffpifljeeikfaaGreatDoor.Bt Go.Proofs.YtffpifljeeikfaaGreatDoor.Sha Go.Proofs.YtffpifljeeikfaaGreatDoor.Tg
set_option linter.unusedVariables false
set_option linter.unusedSimpArgs false

/-- What Next is behind a block; with a draw that counts, where its slot is locking. -/
def made (d : Dat) (b : Blk) : Dat := if b.fro / 24 < b.to / 24 then turnD d b else moreD d
def lockd (d : Dat) (b : Blk) : Dat := if b.to % 24 < 16 then lockD d b else d
/-- Whether the Length would not fit. -/
def overs (d : Dat) (b : Blk) : Prop := ¬ b.fro / 24 < b.to / 24 ∧ d.len = 4294967295
instance (d : Dat) (b : Blk) : Decidable (overs d b) := by unfold overs; exact inferInstance
def nextF (d : Dat) (b : Blk) : Dat := lockd (made d b) b
def nowF (c d : Dat) (b : Blk) : Dat := if b.fro / 24 < b.to / 24 then d else c
theorem fitP {a c : Dat} (k : a.Ok) (l : c.Ok) : 0 + (pcs a c).length ≤ (pcs zd zd).length := by rw [pcs_len k l, pcs_len zd_ok zd_ok]; omega
theorem allP {a c : Dat} (k : a.Ok) (l : c.Ok) : lay (pcs zd zd) 0 (pcs a c) = pcs a c := lay_all _ _ (by rw [pcs_len k l, pcs_len zd_ok zd_ok])
theorem fitD {a : Dat} (k : a.Ok) : 0 + (dcs a).length ≤ (dcs zd).length := by rw [dcs_len k, dcs_len zd_ok]; omega
theorem allD {a : Dat} (k : a.Ok) : lay (dcs zd) 0 (dcs a) = dcs a := lay_all _ _ (by rw [dcs_len k, dcs_len zd_ok])
theorem made_ok {d : Dat} {b : Blk} (k : d.Ok) (j : b.Ok) (h : ¬ overs d b) : (made d b).Ok := by
  unfold made
  split
  · exact turn_ok k j
  · rename_i hn
    have := k.len
    exact more_ok k (by unfold overs at h; omega)
theorem lockd_ok {d : Dat} {b : Blk} (k : d.Ok) (j : b.Ok) : (lockd d b).Ok := by
  unfold lockd
  split
  · exact lock_ok k j
  · exact k
theorem next_ok {d : Dat} {b : Blk} (k : d.Ok) (j : b.Ok) (h : ¬ overs d b) : (nextF d b).Ok := lockd_ok (made_ok k j h) j
theorem now_ok {c d : Dat} {b : Blk} (l : c.Ok) (k : d.Ok) : (nowF c d b).Ok := by
  unfold nowF
  split
  · exact k
  · exact l
theorem made_yes {c d : Dat} {b : Blk} (h : b.fro / 24 < b.to / 24) : made d b = turnD d b ∧ nowF c d b = d := by unfold made nowF; rw [if_pos h, if_pos h]; exact ⟨rfl, rfl⟩
theorem made_no {c d : Dat} {b : Blk} (h : ¬ b.fro / 24 < b.to / 24) : made d b = moreD d ∧ nowF c d b = c := by unfold made nowF; rw [if_neg h, if_neg h]; exact ⟨rfl, rfl⟩
theorem lockd_yes {d : Dat} {b : Blk} (h : b.to % 24 < 16) : lockd d b = lockD d b := by unfold lockd; rw [if_pos h]
theorem lockd_no {d : Dat} {b : Blk} (h : ¬ b.to % 24 < 16) : lockd d b = d := by unfold lockd; rw [if_neg h]
set_option maxHeartbeats 4000000 in
set_option maxRecDepth 100000 in
theorem put_turn (M : Nat) (dd cc : Dat) (b : Blk) (w : World) (hr : Row w M 112 (pcs dd cc)) (k : dd.Ok) (l : cc.Ok) (j : b.Ok) (hk : w.rangeAt 0 0 (u32s ks)) (hMk : M ≠ 0) (ht : b.fro / 24 < b.to / 24) :
    Calls Tryz.prog 54 #[.pointer (some ⟨M, 0, none⟩), .agg (bcs b).toArray] w fun e w' => e = .returned (.int .i64 0) ∧ Row w' M 112 (pcs (nextF dd b) (nowF cc dd b)) ∧ Only M w w' := by
  have HMD := Lib.hid (made_yes (c := cc) (d := dd) ht).1
  have HNW := Lib.hid (made_yes (c := cc) (d := dd) ht).2
  have KN := Lib.hid (turn_ok k j)
  have L1 := Lib.hid (lay_next k l k)
  have G1 := Lib.hid (show 129 + (dcs dd).length ≤ (pcs dd cc).length by rw [pcs_len k l, dcs_len k]; omega)
  have J := Lib.hid j; have K := Lib.hid k; have KC := Lib.hid l
  have HK := Lib.hid hk
  have hk1 : 0 < w.heap.size := range_lt hk (by simp [u32s, ks])
  have CT := fun w0 => Lib.hid (Slot.turnsB_any b.fro b.to w0 j.fro j.to)
  rw [decide_eq_true ht] at CT
  clear k l j hk ht
  go_enter Tryz.func54, Tryz.ntmps54
  go_wp2_with (first
    | ((with_reducible refine at_slot 3 ?_); (refine arm_box (o := ⟨some 3, _, _, _, _, _⟩) rfl _ _ rfl (bcs b) rfl ?_); intro X w1 Xe hw1 nw1; have c0 := hw1.cell (b_fro (Has.refl (bcs b))).get; have c1 := hw1.cell (show Has (bcs b) 1 [num32 b.to] from b_to (Has.refl (bcs b))).get; simp only [num32] at c0 c1))
  have e1 := Xe.out
  have hXM : X ≠ M := by have := hr.lt; omega
  have rM1 := hr.old nw1.below
  have rX1 := hw1
  have o1 : Only M w w1 := Only.of_below M nw1.below
  clear e1 Xe nw1 hr hw1
  refine (CT _).out.mono ?_
  rintro e y1 ⟨rfl, hB1⟩
  have rM2 := rM1.old hB1; have rX2 := rX1.old hB1
  have o2 : Only M w y1 := o1.trans (Only.of_below M hB1)
  clear hB1 c0 c1 rM1 rX1 o1 CT
  go_wp2_with (first
    | ((with_reducible refine at_slot 15 ?_); (refine arm_load (o := ⟨some 15, _, _, _, _, _⟩) rfl _ _ rfl M 0 rfl (dcs dd) ((p_now (Has.refl (pcs dd cc))).range rM2) (sz_dat K.out) ?_))
    | ((with_reducible refine arm_store (o := ⟨none, _, _, _, _, _⟩) rfl _ _ _ rfl M 129 rfl (dcs dd) rfl _ _ (rM2) G1.out (dcs_one _) (sz_dat K.out) ?_); intro w3 hw3 ow3 sw3))
  have rM3 := hw3.congr L1.out; have rX3 := rX2.only ow3 hXM; have o3 := o2.trans ow3
  clear hw3 ow3 sw3 rM2 rX2 o2 L1 G1
  refine wp_region_held (S := fun w' => Row w' X 90 (bcs b)) (by kernel_rfl) ?_
  change wpAnyH _ _ _ _ _ _ _ _ w3.drew
  have rMz : Row w3.drew M 112 (pcs dd dd) := rM3
  have rXz : Row w3.drew X 90 (bcs b) := rX3
  have oz : Only M w w3.drew := o3.trans (Only.drewN M w3 1)
  generalize w3.drew = wz at rMz rXz oz ⊢
  have hS : (fun w' => Row w' X 90 (bcs b)) wz := rXz
  refine h_take 0 (.pointer (some ⟨M, 0, none⟩)) rfl 18 rfl (by kernel_rfl) (by kernel_rfl) (by kernel_rfl) (by kernel_rfl) (fun _ _ _ h => h) (fun w' _ => by kernel_rfl) hS ?_
  simp only [Act.put, List.setIfInBounds_toArray, List.set_cons_zero, List.set_cons_succ]
  refine h_take 1 (.pointer (some ⟨M, 0, none⟩)) rfl 19 rfl (by kernel_rfl) (by kernel_rfl) (by kernel_rfl) (by kernel_rfl) (fun _ _ _ h => h) (fun w' _ => by kernel_rfl) hS ?_
  simp only [Act.put, List.setIfInBounds_toArray, List.set_cons_zero, List.set_cons_succ]
  refine h_take 2 (.pointer (some ⟨M, 0, none⟩)) rfl 20 rfl (by kernel_rfl) (by kernel_rfl) (by kernel_rfl) (by kernel_rfl) (fun _ _ _ h => h) (fun w' _ => by kernel_rfl) hS ?_
  simp only [Act.put, List.setIfInBounds_toArray, List.set_cons_zero, List.set_cons_succ]
  refine h_take 3 (.agg (bcs b).toArray) rfl 21 rfl (by kernel_rfl) (by kernel_rfl) (by kernel_rfl) (by kernel_rfl) (fun _ _ _ h => h) (fun w' h => run_op_load _ _ rfl X 0 rfl (bcs b) ((Has.refl _).range h) (sz_blk J.out)) hS ?_
  simp only [Act.put, List.setIfInBounds_toArray, List.set_cons_zero, List.set_cons_succ]
  refine h_one (i := 4) (by kernel_rfl) (o_call rfl 22 rfl (by kernel_rfl) (run_op_call 75 _ _ rfl #[.pointer (some ⟨M, 0, none⟩), .agg (bcs b).toArray] (by simp only [List.map_toArray, List.map_cons, List.map_nil]; rfl) Tryz.func75 (by kernel_rfl) (by kernel_rfl) _) (begin_any M 112 dd (dcs dd) b _ rMz K.out J.out) ?_)
  rintro e y ⟨rfl, hRy, hOy⟩
  refine ⟨_, rfl, rXz.only hOy hXM, ?_⟩
  simp only [Act.put, List.setIfInBounds_toArray, List.set_cons_zero, List.set_cons_succ]
  refine wpAnyH_done (by kernel_rfl) ?_ _
  clear hS
  have rM4 := hRy; have rX4 := rXz.only hOy hXM; have o4 := oz.trans hOy
  clear hRy hOy oz rMz rXz
  have c1 := rX4.cell (show Has (bcs b) 1 [num32 b.to] from b_to (Has.refl (bcs b))).get
  simp only [num32] at c1
  go_wp2_with fail
  refine (Slot.lockingB_any b.to _ J.out.to).mono ?_
  rintro e yl ⟨rfl, hBl⟩
  have rMl := rM4.old hBl; have rXl := rX4.old hBl
  have ol : Only M w yl := o4.trans (Only.of_below M hBl)
  clear hBl c1 rM4 rX4 o4
  by_cases hl : b.to % 24 < 16
  · have LD := Lib.hid (show nextF dd b = lockD (turnD dd b) b by unfold nextF; rw [HMD.out]; exact lockd_yes hl)
    rw [decide_eq_true hl]
    clear hl
    go_wp2_with fail
    refine wp_region_held (S := fun w' => Row w' X 90 (bcs b)) (by kernel_rfl) ?_
    change wpAnyH _ _ _ _ _ _ _ _ yl.drew
    have rMz : Row yl.drew M 112 (pcs ((turnD dd b)) (dd)) := rMl
    have rXz : Row yl.drew X 90 (bcs b) := rXl
    have oz : Only M w yl.drew := ol.trans (Only.drewN M yl 1)
    generalize yl.drew = wz at rMz rXz oz ⊢
    have hS : (fun w' => Row w' X 90 (bcs b)) wz := rXz
    refine h_take 0 (.pointer (some ⟨M, 0, none⟩)) rfl 33 rfl (by kernel_rfl) (by kernel_rfl) (by kernel_rfl) (by kernel_rfl) (fun _ _ _ h => h) (fun w' _ => by kernel_rfl) hS ?_
    simp only [Act.put, List.setIfInBounds_toArray, List.set_cons_zero, List.set_cons_succ]
    refine h_take 1 (.pointer (some ⟨M, 0, none⟩)) rfl 34 rfl (by kernel_rfl) (by kernel_rfl) (by kernel_rfl) (by kernel_rfl) (fun _ _ _ h => h) (fun w' _ => by kernel_rfl) hS ?_
    simp only [Act.put, List.setIfInBounds_toArray, List.set_cons_zero, List.set_cons_succ]
    refine h_take 2 (.pointer (some ⟨M, 0, none⟩)) rfl 35 rfl (by kernel_rfl) (by kernel_rfl) (by kernel_rfl) (by kernel_rfl) (fun _ _ _ h => h) (fun w' _ => by kernel_rfl) hS ?_
    simp only [Act.put, List.setIfInBounds_toArray, List.set_cons_zero, List.set_cons_succ]
    refine h_take 3 (.agg (bcs b).toArray) rfl 36 rfl (by kernel_rfl) (by kernel_rfl) (by kernel_rfl) (by kernel_rfl) (fun _ _ _ h => h) (fun w' h => run_op_load _ _ rfl X 0 rfl (bcs b) ((Has.refl _).range h) (sz_blk J.out)) hS ?_
    simp only [Act.put, List.setIfInBounds_toArray, List.set_cons_zero, List.set_cons_succ]
    refine h_one (i := 4) (by kernel_rfl) (o_call rfl 37 rfl (by kernel_rfl) (run_op_call 77 _ _ rfl #[.pointer (some ⟨M, 0, none⟩), .agg (bcs b).toArray] (by simp only [List.map_toArray, List.map_cons, List.map_nil]; rfl) Tryz.func77 (by kernel_rfl) (by kernel_rfl) _) (lock_any M 112 ((turnD dd b)) (dcs (dd)) b _ rMz KN.out J.out (range_block HK.out (oz.block _ hk1 (Ne.symm hMk))) hMk) ?_)
    rintro e y ⟨rfl, hRy, hOy⟩
    refine ⟨_, rfl, rXz.only hOy hXM, ?_⟩
    simp only [Act.put, List.setIfInBounds_toArray, List.set_cons_zero, List.set_cons_succ]
    refine wpAnyH_done (by kernel_rfl) ?_ _
    clear hS
    have oy := oz.trans hOy
    clear hOy oz rMz rXz ol rMl rXl
    go_wp2_with fail
    go_ret
    exact ⟨rfl, by rw [LD.out, HNW.out]; exact hRy, oy⟩
  · have LD := Lib.hid (show nextF dd b = (turnD dd b) by unfold nextF; rw [HMD.out]; exact lockd_no hl)
    rw [decide_eq_false hl]
    clear hl
    go_wp2_with fail
    go_ret
    exact ⟨rfl, by rw [LD.out, HNW.out]; exact rMl, ol⟩
set_option maxHeartbeats 4000000 in
set_option maxRecDepth 100000 in
theorem put_more (M : Nat) (dd cc : Dat) (b : Blk) (w : World) (hr : Row w M 112 (pcs dd cc)) (k : dd.Ok) (l : cc.Ok) (j : b.Ok) (hk : w.rangeAt 0 0 (u32s ks)) (hMk : M ≠ 0) (ht : ¬ b.fro / 24 < b.to / 24) (hf : dd.len + 1 < 4294967296) :
    Calls Tryz.prog 54 #[.pointer (some ⟨M, 0, none⟩), .agg (bcs b).toArray] w fun e w' => e = .returned (.int .i64 0) ∧ Row w' M 112 (pcs (nextF dd b) (nowF cc dd b)) ∧ Only M w w' := by
  have HMD := Lib.hid (made_no (c := cc) (d := dd) ht).1
  have HNW := Lib.hid (made_no (c := cc) (d := dd) ht).2
  have KN := Lib.hid (more_ok k hf)
  have CL := fun w0 h => Lib.hid (lengthen_any M 112 dd (dcs cc) w0 h k hf)
  have J := Lib.hid j; have K := Lib.hid k; have KC := Lib.hid l
  have HK := Lib.hid hk
  have hk1 : 0 < w.heap.size := range_lt hk (by simp [u32s, ks])
  have CT := fun w0 => Lib.hid (Slot.turnsB_any b.fro b.to w0 j.fro j.to)
  rw [decide_eq_false ht] at CT
  clear k l j hk ht hf
  go_enter Tryz.func54, Tryz.ntmps54
  go_wp2_with (first
    | ((with_reducible refine at_slot 3 ?_); (refine arm_box (o := ⟨some 3, _, _, _, _, _⟩) rfl _ _ rfl (bcs b) rfl ?_); intro X w1 Xe hw1 nw1; have c0 := hw1.cell (b_fro (Has.refl (bcs b))).get; have c1 := hw1.cell (show Has (bcs b) 1 [num32 b.to] from b_to (Has.refl (bcs b))).get; simp only [num32] at c0 c1))
  have e1 := Xe.out
  have hXM : X ≠ M := by have := hr.lt; omega
  have rM1 := hr.old nw1.below
  have rX1 := hw1
  have o1 : Only M w w1 := Only.of_below M nw1.below
  clear e1 Xe nw1 hr hw1
  refine (CT _).out.mono ?_
  rintro e y1 ⟨rfl, hB1⟩
  have rM2 := rM1.old hB1; have rX2 := rX1.old hB1
  have o2 : Only M w y1 := o1.trans (Only.of_below M hB1)
  clear hB1 c0 c1 rM1 rX1 o1 CT
  go_wp2_with fail
  refine (CL _ rM2).out.mono ?_
  rintro e y2 ⟨rfl, hRy, hOy⟩
  have rM4 := hRy; have rX4 := rX2.only hOy hXM; have o4 := o2.trans hOy
  clear hRy hOy o2 rM2 rX2 CL
  have c1 := rX4.cell (show Has (bcs b) 1 [num32 b.to] from b_to (Has.refl (bcs b))).get
  simp only [num32] at c1
  go_wp2_with fail
  refine (Slot.lockingB_any b.to _ J.out.to).mono ?_
  rintro e yl ⟨rfl, hBl⟩
  have rMl := rM4.old hBl; have rXl := rX4.old hBl
  have ol : Only M w yl := o4.trans (Only.of_below M hBl)
  clear hBl c1 rM4 rX4 o4
  by_cases hl : b.to % 24 < 16
  · have LD := Lib.hid (show nextF dd b = lockD (moreD dd) b by unfold nextF; rw [HMD.out]; exact lockd_yes hl)
    rw [decide_eq_true hl]
    clear hl
    go_wp2_with fail
    refine wp_region_held (S := fun w' => Row w' X 90 (bcs b)) (by kernel_rfl) ?_
    change wpAnyH _ _ _ _ _ _ _ _ yl.drew
    have rMz : Row yl.drew M 112 (pcs ((moreD dd)) (cc)) := rMl
    have rXz : Row yl.drew X 90 (bcs b) := rXl
    have oz : Only M w yl.drew := ol.trans (Only.drewN M yl 1)
    generalize yl.drew = wz at rMz rXz oz ⊢
    have hS : (fun w' => Row w' X 90 (bcs b)) wz := rXz
    refine h_take 0 (.pointer (some ⟨M, 0, none⟩)) rfl 33 rfl (by kernel_rfl) (by kernel_rfl) (by kernel_rfl) (by kernel_rfl) (fun _ _ _ h => h) (fun w' _ => by kernel_rfl) hS ?_
    simp only [Act.put, List.setIfInBounds_toArray, List.set_cons_zero, List.set_cons_succ]
    refine h_take 1 (.pointer (some ⟨M, 0, none⟩)) rfl 34 rfl (by kernel_rfl) (by kernel_rfl) (by kernel_rfl) (by kernel_rfl) (fun _ _ _ h => h) (fun w' _ => by kernel_rfl) hS ?_
    simp only [Act.put, List.setIfInBounds_toArray, List.set_cons_zero, List.set_cons_succ]
    refine h_take 2 (.pointer (some ⟨M, 0, none⟩)) rfl 35 rfl (by kernel_rfl) (by kernel_rfl) (by kernel_rfl) (by kernel_rfl) (fun _ _ _ h => h) (fun w' _ => by kernel_rfl) hS ?_
    simp only [Act.put, List.setIfInBounds_toArray, List.set_cons_zero, List.set_cons_succ]
    refine h_take 3 (.agg (bcs b).toArray) rfl 36 rfl (by kernel_rfl) (by kernel_rfl) (by kernel_rfl) (by kernel_rfl) (fun _ _ _ h => h) (fun w' h => run_op_load _ _ rfl X 0 rfl (bcs b) ((Has.refl _).range h) (sz_blk J.out)) hS ?_
    simp only [Act.put, List.setIfInBounds_toArray, List.set_cons_zero, List.set_cons_succ]
    refine h_one (i := 4) (by kernel_rfl) (o_call rfl 37 rfl (by kernel_rfl) (run_op_call 77 _ _ rfl #[.pointer (some ⟨M, 0, none⟩), .agg (bcs b).toArray] (by simp only [List.map_toArray, List.map_cons, List.map_nil]; rfl) Tryz.func77 (by kernel_rfl) (by kernel_rfl) _) (lock_any M 112 ((moreD dd)) (dcs (cc)) b _ rMz KN.out J.out (range_block HK.out (oz.block _ hk1 (Ne.symm hMk))) hMk) ?_)
    rintro e y ⟨rfl, hRy, hOy⟩
    refine ⟨_, rfl, rXz.only hOy hXM, ?_⟩
    simp only [Act.put, List.setIfInBounds_toArray, List.set_cons_zero, List.set_cons_succ]
    refine wpAnyH_done (by kernel_rfl) ?_ _
    clear hS
    have oy := oz.trans hOy
    clear hOy oz rMz rXz ol rMl rXl
    go_wp2_with fail
    go_ret
    exact ⟨rfl, by rw [LD.out, HNW.out]; exact hRy, oy⟩
  · have LD := Lib.hid (show nextF dd b = (moreD dd) by unfold nextF; rw [HMD.out]; exact lockd_no hl)
    rw [decide_eq_false hl]
    clear hl
    go_wp2_with fail
    go_ret
    exact ⟨rfl, by rw [LD.out, HNW.out]; exact rMl, ol⟩
set_option maxHeartbeats 4000000 in
set_option maxRecDepth 100000 in
theorem put_over (M : Nat) (dd cc : Dat) (b : Blk) (w : World) (hr : Row w M 112 (pcs dd cc)) (k : dd.Ok) (j : b.Ok) (ht : ¬ b.fro / 24 < b.to / 24) (hf : dd.len = 4294967295) :
    Calls Tryz.prog 54 #[.pointer (some ⟨M, 0, none⟩), .agg (bcs b).toArray] w fun e w' => e = .returned (.int .i64 5) ∧ Only M w w' := by
  have CL := fun w0 h => Lib.hid (lengthen_over M 112 dd (dcs cc) w0 h k hf)
  have CT := fun w0 => Lib.hid (Slot.turnsB_any b.fro b.to w0 j.fro j.to)
  rw [decide_eq_false ht] at CT
  clear k j ht hf
  go_enter Tryz.func54, Tryz.ntmps54
  go_wp2_with (first
    | ((with_reducible refine at_slot 3 ?_); (refine arm_box (o := ⟨some 3, _, _, _, _, _⟩) rfl _ _ rfl (bcs b) rfl ?_); intro X w1 Xe hw1 nw1; have c0 := hw1.cell (b_fro (Has.refl (bcs b))).get; have c1 := hw1.cell (show Has (bcs b) 1 [num32 b.to] from b_to (Has.refl (bcs b))).get; simp only [num32] at c0 c1))
  have e1 := Xe.out
  have hXM : X ≠ M := by have := hr.lt; omega
  have rM1 := hr.old nw1.below
  have rX1 := hw1
  have o1 : Only M w w1 := Only.of_below M nw1.below
  clear e1 Xe nw1 hr hw1
  refine (CT _).out.mono ?_
  rintro e y1 ⟨rfl, hB1⟩
  have rM2 := rM1.old hB1
  have o2 : Only M w y1 := o1.trans (Only.of_below M hB1)
  clear hB1 c0 c1 rM1 o1 CT
  go_wp2_with fail
  refine (CL _ rM2).out.mono ?_
  rintro e y2 ⟨rfl, hRy, hOy⟩
  go_wp2_with fail
  go_ret
  exact ⟨rfl, o2.trans hOy⟩
set_option maxHeartbeats 4000000 in
set_option maxRecDepth 100000 in
theorem first_any (x : List Nat) (w : World) (k : H32 x) :
    Calls Tryz.prog 28 #[.agg (u8s x).toArray] w fun e w' => e = .returned (.agg (pcs ⟨x, zh, zh, zh, 1⟩ ⟨x, zh, zh, zh, 1⟩).toArray) ∧ Below w.heap.size w w' := by
  have K := Lib.hid k
  have KD := Lib.hid (show (Dat.mk x zh zh zh 1).Ok from ⟨k, zh_ok, zh_ok, zh_ok, (by decide : 1 < 4294967296)⟩)
  have B1 := Lib.hid (built_dat1 k)
  clear k
  generalize Dat.mk x zh zh zh 1 = d at KD B1 ⊢
  have B2 := Lib.hid (built_pair KD.out KD.out)
  go_enter Tryz.func28, Tryz.ntmps28
  go_wp2_with (first
    | ((with_reducible refine at_slot 1 ?_); (refine arm_box (o := ⟨some 1, _, _, _, _, _⟩) rfl _ _ rfl (u8s x) rfl ?_); intro X w1 Xe hw1 nw1)
    | ((with_reducible refine at_slot 2 ?_); (refine arm_alloc (o := ⟨some 2, _, _, _, _, _⟩) rfl _ rfl (pcs zd zd) z_pair ?_); intro R w2 Re hw2 nw2)
    | ((with_reducible refine at_slot 4 ?_); (refine arm_load (o := ⟨some 4, _, _, _, _, _⟩) rfl _ _ rfl X 0 rfl (u8s x) ((Has.refl _).range (hw1.old nw2.below)) (szH K.out) ?_))
    | ((with_reducible refine at_slot 5 ?_); (refine arm_build (o := ⟨some 5, _, _, _, _, _⟩) rfl _ _ rfl (dcs d) (by simp only [List.map_toArray, List.map_cons, List.map_nil]; exact B1.out) ?_))
    | ((with_reducible refine at_slot 3 ?_); (refine arm_alloc (o := ⟨some 3, _, _, _, _, _⟩) rfl _ rfl (dcs zd) z_dat ?_); intro V w3 Ve hw3 nw3)
    | ((with_reducible refine arm_store (o := ⟨none, _, _, _, _, _⟩) rfl _ _ _ rfl V 0 rfl (dcs d) rfl _ _ (hw3) (fitD KD.out) (dcs_one _) (sz_dat KD.out) ?_); intro w4 hw4 ow4 sw4)
    | ((with_reducible refine at_slot 6 ?_); (refine arm_load (o := ⟨some 6, _, _, _, _, _⟩) rfl _ _ rfl V 0 rfl (dcs d) ((Has.refl _).range (hw4.congr (allD KD.out))) (sz_dat KD.out) ?_))
    | ((with_reducible refine at_slot 7 ?_); (refine arm_load (o := ⟨some 7, _, _, _, _, _⟩) rfl _ _ rfl V 0 rfl (dcs d) ((Has.refl _).range (hw4.congr (allD KD.out))) (sz_dat KD.out) ?_))
    | ((with_reducible refine at_slot 8 ?_); (refine arm_build (o := ⟨some 8, _, _, _, _, _⟩) rfl _ _ rfl (pcs d d) (by simp only [List.map_toArray, List.map_cons, List.map_nil]; exact B2.out) ?_))
    | ((with_reducible refine arm_store (o := ⟨none, _, _, _, _, _⟩) rfl _ _ _ rfl R 0 rfl (pcs d d) rfl _ _ ((hw2.old nw3.below).only ow4 (by have := hw2.lt; have := Ve.out; omega)) (fitP KD.out KD.out) (pcs_one _ _) (sz_pair KD.out KD.out) ?_); intro w5 hw5 ow5 sw5))
  have e1 := Xe.out; have e2 := Re.out; have e3 := Ve.out
  have s1 := nw1.size; have s2 := nw2.size; have s3 := nw3.size; have s4 := sw4.out
  have lR : w.heap.size ≤ R := by omega
  have bel : Below w.heap.size w w4 := below_only (below_step (below_step nw1.below (by omega) nw2.below) (by omega) nw3.below) ow4 (by omega) (by omega)
  exact bodyPost_ret (v := .agg (pcs d d).toArray) (result_row (p := 2) (ty := 33) (u := 33) (by kernel_rfl) _ _ R _ rfl (hw5.congr (allP KD.out KD.out)) (sz_pair KD.out KD.out)) rfl ⟨rfl, below_only bel ow5 lR bel.size⟩
set_option maxHeartbeats 4000000 in
set_option maxRecDepth 100000 in
theorem follow_slot (cc dd : Dat) (b : Blk) (w : World) (l : cc.Ok) (k : dd.Ok) (j : b.Ok) (h : b.to ≤ b.fro) :
    Calls Tryz.prog 33 #[.agg (pcs cc dd).toArray, .agg (bcs b).toArray] w fun e w' => e = .returned (.tuple #[.agg (pcs zd zd).toArray, .int .i64 6]) ∧ Below w.heap.size w w' := by
  have hle : ((b.to : Nat) : Int) ≤ ((b.fro : Nat) : Int) := by omega
  have LP := Lib.hid (lay_all (pcs zd zd) (pcs zd zd) rfl)
  clear l k j h
  go_enter Tryz.func33, Tryz.ntmps33
  go_wp2_with (first
    | ((with_reducible refine at_slot 2 ?_); (refine arm_box (o := ⟨some 2, _, _, _, _, _⟩) rfl _ _ rfl (pcs cc dd) rfl ?_); intro Q w1 Qe hw1 nw1)
    | ((with_reducible refine at_slot 3 ?_); (refine arm_box (o := ⟨some 3, _, _, _, _, _⟩) rfl _ _ rfl (bcs b) rfl ?_); intro X w2 Xe hw2 nw2)
    | ((with_reducible refine at_slot 4 ?_); (refine arm_alloc (o := ⟨some 4, _, _, _, _, _⟩) rfl _ rfl (pcs zd zd) z_pair ?_); intro R w3 Re hw3 nw3; have c0 := (hw2.old nw3.below).cell (b_fro (Has.refl (bcs b))).get; have c1 := (hw2.old nw3.below).cell (show Has (bcs b) 1 [num32 b.to] from b_to (Has.refl (bcs b))).get; simp only [num32] at c0 c1)
    | ((with_reducible refine at_slot 13 ?_); (refine arm_build (o := ⟨some 13, _, _, _, _, _⟩) rfl _ _ rfl (pcs zd zd) built_pair0 ?_))
    | ((with_reducible refine arm_store (o := ⟨none, _, _, _, _, _⟩) rfl _ _ _ rfl R 0 rfl (pcs zd zd) rfl _ _ (hw3) (by rw [Nat.zero_add]; exact Nat.le_refl _) (pcs_one _ _) (sz_pair zd_ok zd_ok) ?_); intro w5 hw5 ow5 sw5))
  have e1 := Qe.out; have e2 := Xe.out; have e3 := Re.out
  have s1 := nw1.size; have s2 := nw2.size; have s3 := nw3.size
  have rQ := (hw1.old nw2.below).old nw3.below; have rX := hw2.old nw3.below; have rR := hw3
  have lR : w.heap.size ≤ R := by omega
  have bel : Below w.heap.size w w3 := below_step (below_step nw1.below (by omega) nw2.below) (by omega) nw3.below
  have zR : R < w3.heap.size := rR.lt
  clear e1 e2 e3 s1 s2 s3 Qe Xe Re hw1 nw1 hw2 nw2 hw3 nw3
  exact bodyPost_ret (v := .tuple #[.agg (pcs zd zd).toArray, .int .i64 6]) (result_row2 (p := 4) (u := 5) (ty := 33) (t := 33) (by kernel_rfl) _ _ R (pcs zd zd) (.int .i64 6) rfl rfl (hw5.congr LP.out) (sz_pair zd_ok zd_ok)) rfl ⟨rfl, below_only bel ow5 lR bel.size⟩
set_option maxHeartbeats 4000000 in
set_option maxRecDepth 100000 in
theorem follow_over (cc dd : Dat) (b : Blk) (w : World) (l : cc.Ok) (k : dd.Ok) (j : b.Ok) (h : b.fro < b.to) (ht : ¬ b.fro / 24 < b.to / 24) (hf : dd.len = 4294967295) :
    Calls Tryz.prog 33 #[.agg (pcs cc dd).toArray, .agg (bcs b).toArray] w fun e w' => e = .returned (.tuple #[.agg (pcs zd zd).toArray, .int .i64 5]) ∧ Below w.heap.size w w' := by
  have hle : ((b.fro : Nat) : Int) < ((b.to : Nat) : Int) := by omega
  have LP := Lib.hid (lay_all (pcs zd zd) (pcs zd zd) rfl)
  have CP := fun N w0 hr => Lib.hid (put_over N dd cc b w0 hr k j ht hf)
  have B1 := Lib.hid (built_maker k l)
  have G1 := Lib.hid (show 0 + (pcs dd cc).length ≤ (pcs zd zd).length by rw [pcs_len k l, pcs_len zd_ok zd_ok]; omega)
  have LM := Lib.hid (lay_all (pcs zd zd) (pcs dd cc) (by rw [pcs_len k l, pcs_len zd_ok zd_ok]))
  have K := Lib.hid k; have KC := Lib.hid l; have J := Lib.hid j
  clear l k j h ht hf
  go_enter Tryz.func33, Tryz.ntmps33
  go_wp2_with (first
    | ((with_reducible refine at_slot 2 ?_); (refine arm_box (o := ⟨some 2, _, _, _, _, _⟩) rfl _ _ rfl (pcs cc dd) rfl ?_); intro Q w1 Qe hw1 nw1)
    | ((with_reducible refine at_slot 3 ?_); (refine arm_box (o := ⟨some 3, _, _, _, _, _⟩) rfl _ _ rfl (bcs b) rfl ?_); intro X w2 Xe hw2 nw2)
    | ((with_reducible refine at_slot 4 ?_); (refine arm_alloc (o := ⟨some 4, _, _, _, _, _⟩) rfl _ rfl (pcs zd zd) z_pair ?_); intro R w3 Re hw3 nw3; have c0 := (hw2.old nw3.below).cell (b_fro (Has.refl (bcs b))).get; have c1 := (hw2.old nw3.below).cell (show Has (bcs b) 1 [num32 b.to] from b_to (Has.refl (bcs b))).get; simp only [num32] at c0 c1)
    | ((with_reducible refine at_slot 15 ?_); (refine arm_load (o := ⟨some 15, _, _, _, _, _⟩) rfl _ _ rfl Q 129 rfl (dcs dd) ((show Has (pcs cc dd) 129 (dcs dd) from p_next KC.out (Has.refl _)).range ((hw1.old nw2.below).old nw3.below)) (sz_dat K.out) ?_))
    | ((with_reducible refine at_slot 17 ?_); (refine arm_load (o := ⟨some 17, _, _, _, _, _⟩) rfl _ _ rfl Q 0 rfl (dcs cc) ((p_now (Has.refl (pcs cc dd))).range ((hw1.old nw2.below).old nw3.below)) (sz_dat KC.out) ?_))
    | ((with_reducible refine at_slot 18 ?_); (refine arm_build (o := ⟨some 18, _, _, _, _, _⟩) rfl _ _ rfl (pcs dd cc) (by simp only [List.map_toArray, List.map_cons, List.map_nil]; exact B1.out) ?_))
    | ((with_reducible refine at_slot 6 ?_); (refine arm_alloc (o := ⟨some 6, _, _, _, _, _⟩) rfl _ rfl (pcs zd zd) z_maker ?_); intro V w4 Ve hw4 nw4)
    | ((with_reducible refine arm_store (o := ⟨none, _, _, _, _, _⟩) rfl _ _ _ rfl V 0 rfl (pcs dd cc) rfl _ _ (hw4) G1.out (pcs_one _ _) (sz_maker K.out KC.out) ?_); intro w5 hw5 ow5 sw5)
    | ((with_reducible refine at_slot 19 ?_); (refine arm_load (o := ⟨some 19, _, _, _, _, _⟩) rfl _ _ rfl X 0 rfl (bcs b) ((Has.refl _).range (((hw2.old nw3.below).old nw4.below).only ow5 (by have := (hw2.old nw3.below).lt; have := Ve.out; omega))) (sz_blk J.out) ?_)))
  have e1 := Qe.out; have e2 := Xe.out; have e3 := Re.out
  have s1 := nw1.size; have s2 := nw2.size; have s3 := nw3.size
  have rQ := (hw1.old nw2.below).old nw3.below; have rX := hw2.old nw3.below; have rR := hw3
  have lR : w.heap.size ≤ R := by omega
  have bel : Below w.heap.size w w3 := below_step (below_step nw1.below (by omega) nw2.below) (by omega) nw3.below
  have zR : R < w3.heap.size := rR.lt
  clear e1 e2 e3 s1 s2 s3 Qe Xe Re hw1 nw1 hw2 nw2 hw3 nw3
  have e4 := Ve.out; have s4 := nw4.size; have s5 := sw5.out
  have rN := hw5.congr LM.out
  have hRN : R ≠ V := by omega
  have rR5 := (rR.old nw4.below).only ow5 hRN
  have lN : w.heap.size ≤ V := by have := bel.size; omega
  have bel5 : Below w.heap.size w w5 := below_only (below_step bel bel.size nw4.below) ow5 lN (by have := bel.size; omega)
  clear e4 s4 s5 Ve hw4 nw4 hw5 ow5 sw5 rQ rX rR zR B1 G1 LM c0 c1 bel
  refine (CP V _ rN).out.mono ?_
  rintro e w6 ⟨rfl, hO⟩
  have rR6 := rR5.only hO hRN
  have bel6 : Below w.heap.size w w6 := below_only bel5 hO lN bel5.size
  clear hO rN rR5 bel5 CP
  go_wp2_with (first
    | ((with_reducible refine at_slot 23 ?_); (refine arm_build (o := ⟨some 23, _, _, _, _, _⟩) rfl _ _ rfl (pcs zd zd) built_pair0 ?_))
    | ((with_reducible refine arm_store (o := ⟨none, _, _, _, _, _⟩) rfl _ _ _ rfl R 0 rfl (pcs zd zd) rfl _ _ (rR6) (by rw [Nat.zero_add]; exact Nat.le_refl _) (pcs_one _ _) (sz_pair zd_ok zd_ok) ?_); intro w7 hw7 ow7 sw7))
  exact bodyPost_ret (v := .tuple #[.agg (pcs zd zd).toArray, .int .i64 5]) (result_row2 (p := 4) (u := 5) (ty := 33) (t := 33) (by kernel_rfl) _ _ R (pcs zd zd) (.int .i64 5) rfl rfl (hw7.congr LP.out) (sz_pair zd_ok zd_ok)) rfl ⟨rfl, below_only bel6 ow7 lR bel6.size⟩
set_option maxHeartbeats 4000000 in
set_option maxRecDepth 100000 in
theorem follow_ok (cc dd : Dat) (b : Blk) (w : World) (l : cc.Ok) (k : dd.Ok) (j : b.Ok) (hk : w.rangeAt 0 0 (u32s ks)) (h : b.fro < b.to) (hn : ¬ overs dd b) :
    Calls Tryz.prog 33 #[.agg (pcs cc dd).toArray, .agg (bcs b).toArray] w fun e w' => e = .returned (.tuple #[.agg (pcs (nowF cc dd b) (nextF dd b)).toArray, .int .i64 0]) ∧ Below w.heap.size w w' := by
  have hle : ((b.fro : Nat) : Int) < ((b.to : Nat) : Int) := by omega
  have hk1 : 0 < w.heap.size := range_lt hk (by simp [u32s, ks])
  have KN := Lib.hid (next_ok k j hn)
  have KW := Lib.hid (now_ok (b := b) l k)
  have CP : Hid (∀ N w0, Row w0 N 112 (pcs dd cc) → w0.rangeAt 0 0 (u32s ks) → N ≠ 0 → Calls Tryz.prog 54 #[.pointer (some ⟨N, 0, none⟩), .agg (bcs b).toArray] w0 fun e w' => e = .returned (.int .i64 0) ∧ Row w' N 112 (pcs (nextF dd b) (nowF cc dd b)) ∧ Only N w0 w') := Lib.hid fun N w0 hr hk hM => by
    by_cases ht : b.fro / 24 < b.to / 24
    · exact put_turn N dd cc b w0 hr k l j hk hM ht
    · exact put_more N dd cc b w0 hr k l j hk hM ht (by have := k.len; unfold overs at hn; omega)
  have HK := Lib.hid hk
  have B1 := Lib.hid (built_maker k l)
  have G1 := Lib.hid (show 0 + (pcs dd cc).length ≤ (pcs zd zd).length by rw [pcs_len k l, pcs_len zd_ok zd_ok]; omega)
  have LM := Lib.hid (lay_all (pcs zd zd) (pcs dd cc) (by rw [pcs_len k l, pcs_len zd_ok zd_ok]))
  have K := Lib.hid k; have KC := Lib.hid l; have J := Lib.hid j
  clear l k j h hn hk
  generalize nextF dd b = ne at KN CP ⊢
  generalize nowF cc dd b = nw at KW CP ⊢
  have B2 := Lib.hid (built_pair KW.out KN.out)
  have G2 := Lib.hid (show 0 + (pcs nw ne).length ≤ (pcs zd zd).length by rw [pcs_len KW.out KN.out, pcs_len zd_ok zd_ok]; omega)
  have LP := Lib.hid (lay_all (pcs zd zd) (pcs nw ne) (by rw [pcs_len KW.out KN.out, pcs_len zd_ok zd_ok]))
  go_enter Tryz.func33, Tryz.ntmps33
  go_wp2_with (first
    | ((with_reducible refine at_slot 2 ?_); (refine arm_box (o := ⟨some 2, _, _, _, _, _⟩) rfl _ _ rfl (pcs cc dd) rfl ?_); intro Q w1 Qe hw1 nw1)
    | ((with_reducible refine at_slot 3 ?_); (refine arm_box (o := ⟨some 3, _, _, _, _, _⟩) rfl _ _ rfl (bcs b) rfl ?_); intro X w2 Xe hw2 nw2)
    | ((with_reducible refine at_slot 4 ?_); (refine arm_alloc (o := ⟨some 4, _, _, _, _, _⟩) rfl _ rfl (pcs zd zd) z_pair ?_); intro R w3 Re hw3 nw3; have c0 := (hw2.old nw3.below).cell (b_fro (Has.refl (bcs b))).get; have c1 := (hw2.old nw3.below).cell (show Has (bcs b) 1 [num32 b.to] from b_to (Has.refl (bcs b))).get; simp only [num32] at c0 c1)
    | ((with_reducible refine at_slot 15 ?_); (refine arm_load (o := ⟨some 15, _, _, _, _, _⟩) rfl _ _ rfl Q 129 rfl (dcs dd) ((show Has (pcs cc dd) 129 (dcs dd) from p_next KC.out (Has.refl _)).range ((hw1.old nw2.below).old nw3.below)) (sz_dat K.out) ?_))
    | ((with_reducible refine at_slot 17 ?_); (refine arm_load (o := ⟨some 17, _, _, _, _, _⟩) rfl _ _ rfl Q 0 rfl (dcs cc) ((p_now (Has.refl (pcs cc dd))).range ((hw1.old nw2.below).old nw3.below)) (sz_dat KC.out) ?_))
    | ((with_reducible refine at_slot 18 ?_); (refine arm_build (o := ⟨some 18, _, _, _, _, _⟩) rfl _ _ rfl (pcs dd cc) (by simp only [List.map_toArray, List.map_cons, List.map_nil]; exact B1.out) ?_))
    | ((with_reducible refine at_slot 6 ?_); (refine arm_alloc (o := ⟨some 6, _, _, _, _, _⟩) rfl _ rfl (pcs zd zd) z_maker ?_); intro V w4 Ve hw4 nw4)
    | ((with_reducible refine arm_store (o := ⟨none, _, _, _, _, _⟩) rfl _ _ _ rfl V 0 rfl (pcs dd cc) rfl _ _ (hw4) G1.out (pcs_one _ _) (sz_maker K.out KC.out) ?_); intro w5 hw5 ow5 sw5)
    | ((with_reducible refine at_slot 19 ?_); (refine arm_load (o := ⟨some 19, _, _, _, _, _⟩) rfl _ _ rfl X 0 rfl (bcs b) ((Has.refl _).range (((hw2.old nw3.below).old nw4.below).only ow5 (by have := (hw2.old nw3.below).lt; have := Ve.out; omega))) (sz_blk J.out) ?_)))
  have e1 := Qe.out; have e2 := Xe.out; have e3 := Re.out
  have s1 := nw1.size; have s2 := nw2.size; have s3 := nw3.size
  have rQ := (hw1.old nw2.below).old nw3.below; have rX := hw2.old nw3.below; have rR := hw3
  have lR : w.heap.size ≤ R := by omega
  have bel : Below w.heap.size w w3 := below_step (below_step nw1.below (by omega) nw2.below) (by omega) nw3.below
  have zR : R < w3.heap.size := rR.lt
  clear e1 e2 e3 s1 s2 s3 Qe Xe Re hw1 nw1 hw2 nw2 hw3 nw3
  have e4 := Ve.out; have s4 := nw4.size; have s5 := sw5.out
  have rN := hw5.congr LM.out
  have hRN : R ≠ V := by omega
  have rR5 := (rR.old nw4.below).only ow5 hRN
  have lN : w.heap.size ≤ V := by have := bel.size; omega
  have bel5 : Below w.heap.size w w5 := below_only (below_step bel bel.size nw4.below) ow5 lN (by have := bel.size; omega)
  clear e4 s4 s5 Ve hw4 nw4 hw5 ow5 sw5 rQ rX rR zR B1 G1 LM c0 c1 bel
  refine (CP.out V _ rN (range_block HK.out (bel5.block _ hk1)) (by omega)).mono ?_
  rintro e w6 ⟨rfl, rN6, hO⟩
  have rR6 := rR5.only hO hRN
  have bel6 : Below w.heap.size w w6 := below_only bel5 hO lN bel5.size
  clear hO rN rR5 bel5 CP
  go_wp2_with (first
    | ((with_reducible refine at_slot 26 ?_); (refine arm_load (o := ⟨some 26, _, _, _, _, _⟩) rfl _ _ rfl V 129 rfl (dcs nw) ((show Has (pcs ne nw) 129 (dcs nw) from p_next KN.out (Has.refl _)).range rN6) (sz_dat KW.out) ?_))
    | ((with_reducible refine at_slot 28 ?_); (refine arm_load (o := ⟨some 28, _, _, _, _, _⟩) rfl _ _ rfl V 0 rfl (dcs ne) ((p_now (Has.refl (pcs ne nw))).range rN6) (sz_dat KN.out) ?_))
    | ((with_reducible refine at_slot 29 ?_); (refine arm_build (o := ⟨some 29, _, _, _, _, _⟩) rfl _ _ rfl (pcs nw ne) (by simp only [List.map_toArray, List.map_cons, List.map_nil]; exact B2.out) ?_))
    | ((with_reducible refine arm_store (o := ⟨none, _, _, _, _, _⟩) rfl _ _ _ rfl R 0 rfl (pcs nw ne) rfl _ _ (rR6) G2.out (pcs_one _ _) (sz_pair KW.out KN.out) ?_); intro w7 hw7 ow7 sw7))
  exact bodyPost_ret (v := .tuple #[.agg (pcs nw ne).toArray, .int .i64 0]) (result_row2 (p := 4) (u := 5) (ty := 33) (t := 33) (by kernel_rfl) _ _ R (pcs nw ne) (.int .i64 0) rfl rfl (hw7.congr LP.out) (sz_pair KW.out KN.out)) rfl ⟨rfl, below_only bel6 ow7 lR bel6.size⟩
/-- What Follow answers. -/
def ansC (c d : Dat) (b : Blk) : Dat := if b.fro < b.to ∧ ¬ overs d b then nowF c d b else zd
def ansN (d : Dat) (b : Blk) : Dat := if b.fro < b.to ∧ ¬ overs d b then nextF d b else zd
def ansE (d : Dat) (b : Blk) : Int := if b.fro < b.to then (if overs d b then 5 else 0) else 6
theorem ansC_ok {c d : Dat} {b : Blk} (l : c.Ok) (k : d.Ok) : (ansC c d b).Ok := by
  unfold ansC
  split
  · exact now_ok l k
  · exact zd_ok
theorem ansN_ok {d : Dat} {b : Blk} (k : d.Ok) (j : b.Ok) : (ansN d b).Ok := by
  unfold ansN
  split
  · rename_i h; exact next_ok k j h.2
  · exact zd_ok
theorem ans_slot {c d : Dat} {b : Blk} (h : b.to ≤ b.fro) : ansC c d b = zd ∧ ansN d b = zd ∧ ansE d b = 6 := by
  unfold ansC ansN ansE
  rw [if_neg (by omega), if_neg (by omega), if_neg (by omega)]
  exact ⟨rfl, rfl, rfl⟩
theorem ans_over {c d : Dat} {b : Blk} (h : b.fro < b.to) (ho : overs d b) : ansC c d b = zd ∧ ansN d b = zd ∧ ansE d b = 5 := by
  unfold ansC ansN ansE
  rw [if_neg (fun x => x.2 ho), if_neg (fun x => x.2 ho), if_pos h, if_pos ho]
  exact ⟨rfl, rfl, rfl⟩
theorem ans_ok {c d : Dat} {b : Blk} (h : b.fro < b.to) (ho : ¬ overs d b) : ansC c d b = nowF c d b ∧ ansN d b = nextF d b ∧ ansE d b = 0 := by
  unfold ansC ansN ansE
  rw [if_pos ⟨h, ho⟩, if_pos ⟨h, ho⟩, if_pos h, if_neg ho]
  exact ⟨rfl, rfl, rfl⟩
theorem follow_any (cc dd : Dat) (b : Blk) (w : World) (l : cc.Ok) (k : dd.Ok) (j : b.Ok) (hk : w.rangeAt 0 0 (u32s ks)) :
    Calls Tryz.prog 33 #[.agg (pcs cc dd).toArray, .agg (bcs b).toArray] w fun e w' => e = .returned (.tuple #[.agg (pcs (ansC cc dd b) (ansN dd b)).toArray, .int .i64 (ansE dd b)]) ∧ Below w.heap.size w w' := by
  by_cases h : b.fro < b.to
  · by_cases ho : overs dd b
    · obtain ⟨e1, e2, e3⟩ := ans_over (c := cc) h ho
      rw [e1, e2, e3]
      exact follow_over cc dd b w l k j h ho.1 ho.2
    · obtain ⟨e1, e2, e3⟩ := ans_ok (c := cc) h ho
      rw [e1, e2, e3]
      exact follow_ok cc dd b w l k j hk h ho
  · obtain ⟨e1, e2, e3⟩ := ans_slot (c := cc) (d := dd) (b := b) (by omega)
    rw [e1, e2, e3]
    exact follow_slot cc dd b w l k j (by omega)
end Go.Proofs.YtffpifljeeikfaaGreatDoor.Ep

/-
  The contracts of the document's answers for layer 8 (Seed, First, Follow) and of the law's 'own'. Over this seat's translation.
-/
namespace Go.Proofs.YtffpifljeeikfaaGreatDoor.Ep
open Go.ChangeShapes Go.WideShapes Go.ChangeAt Go.RowKit Go.Proofs.YtffpifljeeikfaaGreatDoor.Mem Go.Proofs.YtffpifljeeikfaaGreatDoor.Bt Go.Proofs.YtffpifljeeikfaaGreatDoor.Sha Go.Proofs.YtffpifljeeikfaaGreatDoor.Tg
set_option linter.unusedVariables false
set_option linter.unusedSimpArgs false

theorem zH : Mem.Zero Tryz.prog 23 (u8s zh) := z25
theorem fitH {h : List Nat} (k : H32 h) : 0 + (u8s h).length ≤ (u8s zh).length := by rw [h_len k, h_len zh_ok]; omega
theorem allH {h : List Nat} (k : H32 h) : lay (u8s zh) 0 (u8s h) = u8s h := lay_all _ _ (by rw [h_len k, h_len zh_ok])
end Go.Proofs.YtffpifljeeikfaaGreatDoor.Ep
