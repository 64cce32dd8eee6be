import Derived.Test.YtaihhbiocolhcaaDoorNumAll
import Derived.Test.YtaihhbiocolhcaaDoorMemAll
import Derived.BigQuiet
import Derived.Test.YtaihhbiocolhcaaDoorBytAll
import Derived.Test.YtaihhbiocolhcaaDoorShaAll
import Derived.Test.YtaihhbiocolhcaaDoorFitAll
import Derived.Test.YtaihhbiocolhcaaDoorTagAll
/-
  The contracts of some functions of packages slot and num over natural numbers, with what the walk needs of memory: nothing that was there changes ('Below'). Over this seat's translation.
-/
namespace Go.Proofs.YtaihhbiocolhcaaDoor.Slot
open Go.ChangeShapes Go.WideShapes Go.ChangeAt Go.RowKit Go.Proofs.YtaihhbiocolhcaaDoor.Mem
open Num (in32 keep32)
set_option linter.unusedVariables false

end Go.Proofs.YtaihhbiocolhcaaDoor.Slot

/-
  An epoch's data, pairs of them and blocks, as cells: what stands where, what a write leaves, how they are written out, '=='. Over this seat's translation.
-/
namespace Go.Proofs.YtaihhbiocolhcaaDoor.Ep
open Go.ChangeShapes Go.WideShapes Go.ChangeAt Go.RowKit Go.Proofs.YtaihhbiocolhcaaDoor.Mem Go.Proofs.YtaihhbiocolhcaaDoor.Bt Go.Proofs.YtaihhbiocolhcaaDoor.Sha
set_option linter.unusedVariables false
set_option linter.unusedSimpArgs false

/-! ### What stands where. -/
/-- These cells stand at a place. -/
structure Has (cs : List Value) (o : Nat) (vs : List Value) : Prop where
  ex : ∃ p r, cs = p ++ (vs ++ r) ∧ p.length = o
theorem Has.refl (vs : List Value) : Has vs 0 vs := ⟨[], [], by simp, rfl⟩
theorem Has.left {cs a b : List Value} {o : Nat} (h : Has cs o (a ++ b)) : Has cs o a := by
  obtain ⟨p, r, e, hp⟩ := h.ex
  exact ⟨p, b ++ r, by rw [e, List.append_assoc], hp⟩
theorem Has.right {cs a b : List Value} {o : Nat} (h : Has cs o (a ++ b)) (n : Nat) (hn : a.length = n) : Has cs (o + n) b := by
  obtain ⟨p, r, e, hp⟩ := h.ex
  exact ⟨p ++ a, r, by rw [e]; simp only [List.append_assoc], by rw [List.length_append, hp, hn]⟩
theorem Has.head {cs b : List Value} {v : Value} {o : Nat} (h : Has cs o (v :: b)) : Has cs o [v] := Has.left (a := [v]) (b := b) h
theorem Has.tail {cs b : List Value} {v : Value} {o : Nat} (h : Has cs o (v :: b)) : Has cs (o + 1) b := Has.right (a := [v]) (b := b) h 1 rfl
theorem Has.get {cs : List Value} {o : Nat} {v : Value} (h : Has cs o [v]) : cs[o]? = some v := by
  obtain ⟨p, r, e, hp⟩ := h.ex
  rw [e, List.getElem?_append_right (by omega), hp, Nat.sub_self]
  rfl
theorem Has.range {w : World} {b o : Nat} {t : TypeId} {cs vs : List Value} (h : Has cs o vs) (hr : Row w b t cs) : w.rangeAt b o vs := hr.range o _ (fun j v hj => by
  obtain ⟨p, r, e, hp⟩ := h.ex
  rw [e, List.getElem?_append_right (by omega), hp, Nat.add_sub_cancel_left, List.getElem?_append_left (List.getElem?_eq_some_iff.1 hj).1]
  exact hj)
theorem Has.le {cs vs : List Value} {o : Nat} (h : Has cs o vs) : o + vs.length ≤ cs.length := by
  obtain ⟨p, r, e, hp⟩ := h.ex
  rw [e, List.length_append, List.length_append]
  omega
theorem Has.same {cs vs : List Value} {o : Nat} (h : Has cs o vs) : lay cs o vs = cs := by
  obtain ⟨p, r, e, hp⟩ := h.ex
  subst e hp
  unfold lay
  rw [List.take_left, ← List.append_assoc, List.drop_append_of_le_length (by rw [List.length_append]; omega), List.drop_eq_nil_of_le (by rw [List.length_append]; omega), List.nil_append]

/-! ### Data, pairs, blocks. -/
/-- A digest. -/
structure H32 (h : List Nat) : Prop where
  len : h.length = 32
  lt : AllLt 256 h
/-- The zero digest. -/
def zh : List Nat := List.replicate 32 0
theorem zh_ok : H32 zh := ⟨rfl, fun x hx => by have := List.eq_of_mem_replicate hx; omega⟩
/-- What is told of an epoch. -/
structure Dat where
  led : List Nat
  seed : List Nat
  start : List Nat
  lock : List Nat
  len : Nat
structure Dat.Ok (d : Dat) : Prop where
  led : H32 d.led
  seed : H32 d.seed
  start : H32 d.start
  lock : H32 d.lock
  len : d.len < 4294967296
/-- A block that follows. -/
structure Blk where
  fro : Nat
  to : Nat
  prev : List Nat
  led : List Nat
  draw : List Nat
structure Blk.Ok (b : Blk) : Prop where
  fro : b.fro < 4294967296
  to : b.to < 4294967296
  prev : H32 b.prev
  led : H32 b.led
  draw : H32 b.draw
def num32 (n : Nat) : Value := .int .u32 (n : Int)
def dcs (d : Dat) : List Value := u8s d.led ++ (u8s d.seed ++ (u8s d.start ++ (u8s d.lock ++ [num32 d.len])))
def pcs (a c : Dat) : List Value := dcs a ++ dcs c
def bcs (b : Blk) : List Value := num32 b.fro :: num32 b.to :: (u8s b.prev ++ (u8s b.led ++ u8s b.draw))
/-- The zero data. -/
def zd : Dat := ⟨zh, zh, zh, zh, 0⟩
theorem z32 : 0 < 4294967296 := by decide
theorem zd_ok : zd.Ok := ⟨zh_ok, zh_ok, zh_ok, zh_ok, by decide⟩
theorem h_len {h : List Nat} (k : H32 h) : (u8s h).length = 32 := by rw [u8s_length, k.len]
theorem dcs_len {d : Dat} (h : d.Ok) : (dcs d).length = 129 := by
  unfold dcs
  simp only [List.length_append, h_len h.led, h_len h.seed, h_len h.start, h_len h.lock, List.length_singleton]
theorem pcs_len {a c : Dat} (ha : a.Ok) (hc : c.Ok) : (pcs a c).length = 258 := by unfold pcs; rw [List.length_append, dcs_len ha, dcs_len hc]
theorem bcs_len {b : Blk} (h : b.Ok) : (bcs b).length = 98 := by
  unfold bcs
  simp only [List.length_cons, List.length_append, h_len h.prev, h_len h.led, h_len h.draw]
theorem one_app {a b : List Value} (ha : OneCells a) (hb : OneCells b) : OneCells (a ++ b) := fun v hv => (List.mem_append.1 hv).elim (ha v) (hb v)
theorem one_num (n : Nat) : OneCells [num32 n] := by intro v hv; rw [List.mem_singleton.1 hv]; rfl
theorem dcs_one (d : Dat) : OneCells (dcs d) := one_app (u8s_one _) (one_app (u8s_one _) (one_app (u8s_one _) (one_app (u8s_one _) (one_num _))))
theorem pcs_one (a c : Dat) : OneCells (pcs a c) := one_app (dcs_one _) (dcs_one _)
theorem bcs_one (b : Blk) : OneCells (bcs b) := one_app (a := [num32 b.fro]) (one_num _) (one_app (a := [num32 b.to]) (one_num _) (one_app (u8s_one _) (one_app (u8s_one _) (u8s_one _))))
section
variable {cs : List Value} {o : Nat} {d : Dat}
theorem d_led (h : Has cs o (dcs d)) : Has cs o (u8s d.led) := h.left
theorem d_seed (k : d.Ok) (h : Has cs o (dcs d)) : Has cs (o + 32) (u8s d.seed) := (h.right 32 (h_len k.led)).left
theorem d_start (k : d.Ok) (h : Has cs o (dcs d)) : Has cs (o + 64) (u8s d.start) := ((h.right 32 (h_len k.led)).right 32 (h_len k.seed)).left
theorem d_lock (k : d.Ok) (h : Has cs o (dcs d)) : Has cs (o + 96) (u8s d.lock) := (((h.right 32 (h_len k.led)).right 32 (h_len k.seed)).right 32 (h_len k.start)).left
theorem d_len (k : d.Ok) (h : Has cs o (dcs d)) : Has cs (o + 128) [num32 d.len] := (((h.right 32 (h_len k.led)).right 32 (h_len k.seed)).right 32 (h_len k.start)).right 32 (h_len k.lock)
theorem p_now {a c : Dat} (h : Has cs o (pcs a c)) : Has cs o (dcs a) := h.left
theorem p_next {a c : Dat} (k : a.Ok) (h : Has cs o (pcs a c)) : Has cs (o + 129) (dcs c) := h.right 129 (dcs_len k)
theorem b_fro {b : Blk} (h : Has cs o (bcs b)) : Has cs o [num32 b.fro] := h.head
theorem b_to {b : Blk} (h : Has cs o (bcs b)) : Has cs (o + 1) [num32 b.to] := h.tail.head
theorem b_prev {b : Blk} (h : Has cs o (bcs b)) : Has cs (o + 2) (u8s b.prev) := h.tail.tail.left
theorem b_led {b : Blk} (k : b.Ok) (h : Has cs o (bcs b)) : Has cs (o + 34) (u8s b.led) := (h.tail.tail.right 32 (h_len k.prev)).left
theorem b_draw {b : Blk} (k : b.Ok) (h : Has cs o (bcs b)) : Has cs (o + 66) (u8s b.draw) := (h.tail.tail.right 32 (h_len k.prev)).right 32 (h_len k.led)
end
/-! ### What a write leaves. -/
section
variable {d : Dat} {x : List Nat} (k : d.Ok) (hx : H32 x) (r : List Value)
include k hx
theorem lay_led : lay (dcs d ++ r) 0 (u8s x) = dcs ⟨x, d.seed, d.start, d.lock, d.len⟩ ++ r := by
  unfold dcs
  simp only [List.append_assoc]
  rw [lay_head _ _ _ (by rw [h_len hx, h_len k.led])]
theorem lay_seed : lay (dcs d ++ r) 32 (u8s x) = dcs ⟨d.led, x, d.start, d.lock, d.len⟩ ++ r := by
  unfold dcs
  simp only [List.append_assoc]
  rw [show (32 : Nat) = 32 + 0 from rfl, lay_skip _ _ _ 0 (h_len k.led), lay_head _ _ _ (by rw [h_len hx, h_len k.seed])]
theorem lay_start : lay (dcs d ++ r) 64 (u8s x) = dcs ⟨d.led, d.seed, x, d.lock, d.len⟩ ++ r := by
  unfold dcs
  simp only [List.append_assoc]
  rw [show (64 : Nat) = 32 + (32 + 0) from rfl, lay_skip _ _ _ _ (h_len k.led), lay_skip _ _ _ _ (h_len k.seed), lay_head _ _ _ (by rw [h_len hx, h_len k.start])]
theorem lay_lock : lay (dcs d ++ r) 96 (u8s x) = dcs ⟨d.led, d.seed, d.start, x, d.len⟩ ++ r := by
  unfold dcs
  simp only [List.append_assoc]
  rw [show (96 : Nat) = 32 + (32 + (32 + 0)) from rfl, lay_skip _ _ _ _ (h_len k.led), lay_skip _ _ _ _ (h_len k.seed), lay_skip _ _ _ _ (h_len k.start), lay_head _ _ _ (by rw [h_len hx, h_len k.lock])]
end
theorem set_lay {cs : List Value} {o : Nat} {v : Value} (h : o < cs.length) : cs.set o v = lay cs o [v] := by
  rw [List.set_eq_take_append_cons_drop, if_pos h]
  simp [lay]
theorem lay_lenv {d : Dat} (k : d.Ok) (n : Nat) (r : List Value) : lay (dcs d ++ r) 128 [num32 n] = dcs ⟨d.led, d.seed, d.start, d.lock, n⟩ ++ r := by
  unfold dcs
  simp only [List.append_assoc]
  rw [show (128 : Nat) = 32 + (32 + (32 + (32 + 0))) from rfl, lay_skip _ _ _ _ (h_len k.led), lay_skip _ _ _ _ (h_len k.seed), lay_skip _ _ _ _ (h_len k.start), lay_skip _ _ _ _ (h_len k.lock), lay_head [num32 d.len] r [num32 n] rfl]
theorem set_len {d : Dat} (k : d.Ok) (n : Nat) (r : List Value) : (dcs d ++ r).set 128 (num32 n) = dcs ⟨d.led, d.seed, d.start, d.lock, n⟩ ++ r := by
  rw [set_lay (by rw [List.length_append, dcs_len k]; omega), lay_lenv k]
theorem lay_dat {d e : Dat} (k : d.Ok) (j : e.Ok) (r : List Value) : lay (dcs d ++ r) 0 (dcs e) = dcs e ++ r := lay_head _ _ _ (by rw [dcs_len k, dcs_len j])
/-- The second data of a pair. -/
theorem lay_snd {a : Dat} (k : a.Ok) (c : Dat) (o : Nat) (vs : List Value) : lay (pcs a c) (129 + o) vs = dcs a ++ lay (dcs c ++ []) o vs := by
  unfold pcs
  rw [List.append_nil, lay_skip _ _ _ o (dcs_len k)]
theorem lay_fst (a c : Dat) (o : Nat) (vs : List Value) : lay (pcs a c) o vs = lay (dcs a ++ dcs c) o vs := rfl
theorem lay_next {a c e : Dat} (k : a.Ok) (kc : c.Ok) (ke : e.Ok) : lay (pcs a c) 129 (dcs e) = pcs a e := by
  rw [show (129 : Nat) = 129 + 0 from rfl, lay_snd k, lay_dat kc ke, List.append_nil]
  rfl
theorem lay_now {a c e : Dat} (k : a.Ok) (ke : e.Ok) : lay (pcs a c) 0 (dcs e) = pcs e c := lay_dat k ke _
theorem lay_nseed {a c : Dat} {x : List Nat} (k : a.Ok) (kc : c.Ok) (hx : H32 x) : lay (pcs a c) 161 (u8s x) = pcs a ⟨c.led, x, c.start, c.lock, c.len⟩ := by
  rw [show (161 : Nat) = 129 + 32 from rfl, lay_snd k, lay_seed kc hx, List.append_nil]
  rfl
theorem lay_nlock {a c : Dat} {x : List Nat} (k : a.Ok) (kc : c.Ok) (hx : H32 x) : lay (pcs a c) 225 (u8s x) = pcs a ⟨c.led, c.seed, c.start, x, c.len⟩ := by
  rw [show (225 : Nat) = 129 + 96 from rfl, lay_snd k, lay_lock kc hx, List.append_nil]
  rfl
theorem set_nlen {a c : Dat} (k : a.Ok) (kc : c.Ok) (n : Nat) : (pcs a c).set 257 (num32 n) = pcs a ⟨c.led, c.seed, c.start, c.lock, n⟩ := by
  rw [set_lay (by rw [pcs_len k kc]; omega), show (257 : Nat) = 129 + 128 from rfl, lay_snd k, lay_lenv kc, List.append_nil]
  rfl
theorem lay_draw {b : Blk} {x : List Nat} (k : b.Ok) (hx : H32 x) : lay (bcs b) 66 (u8s x) = bcs ⟨b.fro, b.to, b.prev, b.led, x⟩ := by
  have e : ∀ b : Blk, bcs b = [num32 b.fro, num32 b.to] ++ (u8s b.prev ++ (u8s b.led ++ (u8s b.draw ++ []))) := fun b => by rw [List.append_nil]; rfl
  rw [e, show (66 : Nat) = 2 + (32 + (32 + 0)) from rfl, lay_skip [num32 b.fro, num32 b.to] _ _ _ (m := 2) rfl, lay_skip _ _ _ _ (h_len k.prev), lay_skip _ _ _ _ (h_len k.led), lay_head _ _ _ (by rw [h_len hx, h_len k.draw]), e]

/-! ### Their types. -/
theorem szH {h : List Nat} (k : H32 h) : Sized Tryd.prog 23 (u8s h).length := by rw [h_len k]; exact sz25
/-! ### Written out. -/
def dplaces : Nat → Option (Nat × Nat) := fun i => (#[(0, 32), (32, 32), (64, 32), (96, 32), (128, 1)] : Array (Nat × Nat))[i]?
def pplaces : Nat → Option (Nat × Nat) := fun i => (#[(0, 129), (129, 129)] : Array (Nat × Nat))[i]?
def bplaces : Nat → Option (Nat × Nat) := fun i => (#[(0, 1), (1, 1), (2, 32), (34, 32), (66, 32)] : Array (Nat × Nat))[i]?
section
variable {d : Dat} {x : List Nat} (k : d.Ok) (hx : H32 x) (rest : List (Nat × Value))
include k hx
theorem f_led : Instr.fill dplaces (dcs d).toArray ((0, .agg (u8s x).toArray) :: rest) = Instr.fill dplaces (dcs ⟨x, d.seed, d.start, d.lock, d.len⟩).toArray rest := by
  rw [fill_step dplaces (dcs d) 0 0 32 _ (u8s x) rest rfl rfl (h_len hx) (by rw [dcs_len k]; omega)]
  have := lay_led k hx []
  rw [List.append_nil, List.append_nil] at this
  rw [this]
theorem f_seed : Instr.fill dplaces (dcs d).toArray ((1, .agg (u8s x).toArray) :: rest) = Instr.fill dplaces (dcs ⟨d.led, x, d.start, d.lock, d.len⟩).toArray rest := by
  rw [fill_step dplaces (dcs d) 1 32 32 _ (u8s x) rest rfl rfl (h_len hx) (by rw [dcs_len k]; omega)]
  have := lay_seed k hx []
  rw [List.append_nil, List.append_nil] at this
  rw [this]
theorem f_start : Instr.fill dplaces (dcs d).toArray ((2, .agg (u8s x).toArray) :: rest) = Instr.fill dplaces (dcs ⟨d.led, d.seed, x, d.lock, d.len⟩).toArray rest := by
  rw [fill_step dplaces (dcs d) 2 64 32 _ (u8s x) rest rfl rfl (h_len hx) (by rw [dcs_len k]; omega)]
  have := lay_start k hx []
  rw [List.append_nil, List.append_nil] at this
  rw [this]
end
theorem f_len {d : Dat} (k : d.Ok) (n : Nat) (rest : List (Nat × Value)) : Instr.fill dplaces (dcs d).toArray ((4, num32 n) :: rest) = Instr.fill dplaces (dcs ⟨d.led, d.seed, d.start, d.lock, n⟩).toArray rest := by
  rw [fill_step dplaces (dcs d) 4 128 1 (num32 n) [num32 n] rest rfl rfl rfl (by rw [dcs_len k]; omega)]
  have := lay_lenv k n []
  rw [List.append_nil, List.append_nil] at this
  rw [this]
/-- The zero block. -/
def zb : Blk := ⟨0, 0, zh, zh, zh⟩
theorem bcs_app (b : Blk) : bcs b = [num32 b.fro] ++ ([num32 b.to] ++ (u8s b.prev ++ (u8s b.led ++ (u8s b.draw ++ [])))) := by rw [List.append_nil]; rfl
/-! ### '=='. -/
theorem u8s_int (l : List Nat) : ∀ v ∈ u8s l, ∃ m, v = .int .u8 m := by
  intro v hv
  unfold u8s at hv
  obtain ⟨n, _, rfl⟩ := List.mem_map.1 hv
  exact ⟨_, rfl⟩
set_option maxRecDepth 100000 in
theorem fit_hash (e : Nat) {h : List Nat} (k : H32 h) : Fit Tryd.prog (e + 2) 23 (u8s h) := fit_ints (n := 32) (e := 5) (by kernel_rfl) (by kernel_rfl) (by kernel_rfl) (h_len k) (u8s_int h)
theorem Has.chunk {cs vs : List Value} {o n : Nat} (h : Has cs o vs) (hn : vs.length = n) : chunk cs o n = vs := by
  obtain ⟨p, r, e, hp⟩ := h.ex
  unfold Mem.chunk
  subst e hp hn
  rw [List.drop_left, List.take_left]
section
variable {o : Oper} {a : Act}
end
end Go.Proofs.YtaihhbiocolhcaaDoor.Ep

/-
  The contracts of what changes an epoch's data, and of what puts a block behind a pair (package epoch): a checkpoint that is moved, a later epoch's begin, one block more, a draw that counts. Over this seat's translation.
-/
namespace Go.Proofs.YtaihhbiocolhcaaDoor.Ep
open Go.ChangeShapes Go.WideShapes Go.ChangeAt Go.RowKit Go.Proofs.YtaihhbiocolhcaaDoor.Mem Go.Proofs.YtaihhbiocolhcaaDoor.Bt Go.Proofs.YtaihhbiocolhcaaDoor.Sha Go.Proofs.YtaihhbiocolhcaaDoor.Tg
set_option linter.unusedVariables false
set_option linter.unusedSimpArgs false

theorem digest_lt (l : List Nat) : AllLt 256 (digest l) := by
  intro x hx
  unfold digest outOf at hx
  obtain ⟨y, _, hy⟩ := List.mem_flatMap.1 hx
  exact bytes4_lt y x hy
theorem tagD_lt (s : ByteArray) (l : List (List Nat)) : AllLt 256 (tagD s l) := by
  unfold tagD; split
  · exact digest_lt _
  · intro x hx; have := List.eq_of_mem_replicate hx; omega
/-- A seed, made of a seed and a draw. -/
def seedN (s x : List Nat) : List Nat := tagD ⟨#[115, 101, 101, 100]⟩ [s, x]
theorem seed_ok (s x : List Nat) : H32 (seedN s x) := ⟨tagD_len _ _, tagD_lt _ _⟩
/-- The data of a later epoch's begin; of one block more; with a draw that counts. -/
def turnD (d : Dat) (b : Blk) : Dat := ⟨b.led, d.seed, b.prev, zh, 1⟩
def moreD (d : Dat) : Dat := ⟨d.led, d.seed, d.start, d.lock, d.len + 1⟩
def lockD (d : Dat) (b : Blk) : Dat := ⟨d.led, seedN d.seed b.draw, d.start, b.prev, d.len⟩
theorem turn_ok {d : Dat} {b : Blk} (k : d.Ok) (j : b.Ok) : (turnD d b).Ok := ⟨j.led, k.seed, j.prev, zh_ok, (by decide : 1 < 4294967296)⟩
theorem more_ok {d : Dat} (k : d.Ok) (h : d.len + 1 < 4294967296) : (moreD d).Ok := ⟨k.led, k.seed, k.start, k.lock, h⟩
theorem lock_ok {d : Dat} {b : Blk} (k : d.Ok) (j : b.Ok) : (lockD d b).Ok := ⟨k.led, seed_ok _ _, k.start, j.prev, k.len⟩
theorem run_two (p q : Option Addr) (n m c e : Nat) (w : World) : (Instr.buildSlice 88 2 #[(0, .slice p n c), (1, .slice q m e)]).run Tryd.prog w = .ok (.slice (some ⟨w.heap.size, 0, none⟩) 2 2) (w.alloc (.cells #[.slice p n c, .slice q m e] 30)) := by kernel_rfl
theorem run_op_two {o : Oper} {a : Act} (x y : Operand) (ho : o.op = .buildSlice 88 2 #[(0, x), (1, y)]) (p q : Option Addr) (n m c e : Nat) (hx : a.eval x = .slice p n c) (hy : a.eval y = .slice q m e) (w : World) :
    (execOp a.eval o).run Tryd.prog w = .ok (.value (.slice (some ⟨w.heap.size, 0, none⟩) 2 2)) (w.alloc (.cells #[.slice p n c, .slice q m e] 30)) := by
  unfold execOp
  simp only [ho, List.map_toArray, List.map_cons, List.map_nil, hx, hy, Sem.run_bind, run_two, Result.andThen_ok, Sem.run_pure]
theorem came_at {w : World} {b o : Nat} {h : List Nat} (hr : w.rangeAt b o (u8s h)) (k : H32 h) : Came w (some ⟨b, o, none⟩) 32 h :=
  ⟨by have := k.len; omega, fun e => (by cases e), fun _ => ⟨b, o, rfl, hr⟩, k.lt, by unfold maxLen; omega⟩
/-- A row of two digests' bytes. -/
theorem parts_hh {w : World} {b : Nat} {p q : Option Addr} {h g : List Nat} (hr : Row w b 30 [.slice p 32 32, .slice q 32 32]) (hc : Came w p 32 h) (hd : Came w q 32 g) (k : H32 h) (j : H32 g) : Parts w (some ⟨b, 0, none⟩) [h, g] :=
  ⟨fun _ => ⟨b, 0, rfl, hr.lt, fun i hi => by
    have hi' : i < 2 := hi
    obtain rfl | rfl : i = 0 ∨ i = 1 := by omega
    · exact ⟨p, 32, by show _ = some (Value.slice p h.length 32); rw [k.len]; exact hr.cell rfl, hc⟩
    · exact ⟨q, 32, by show _ = some (Value.slice q g.length 32); rw [j.len]; exact hr.cell rfl, hd⟩⟩⟩
end Go.Proofs.YtaihhbiocolhcaaDoor.Ep

/-
  The contracts of package epoch: what puts a block behind a pair, First and Follow. Over this seat's translation.
-/
namespace Go.Proofs.YtaihhbiocolhcaaDoor.Ep
open Go.ChangeShapes Go.WideShapes Go.ChangeAt Go.RowKit Go.Proofs.YtaihhbiocolhcaaDoor.Mem Go.Proofs.YtaihhbiocolhcaaDoor.Bt Go.Proofs.YtaihhbiocolhcaaDoor.Sha Go.Proofs.YtaihhbiocolhcaaDoor.Tg
set_option linter.unusedVariables false
set_option linter.unusedSimpArgs false

/-- What Next is behind a block; with a draw that counts, where its slot is locking. -/
def made (d : Dat) (b : Blk) : Dat := if b.fro / 24 < b.to / 24 then turnD d b else moreD d
def lockd (d : Dat) (b : Blk) : Dat := if b.to % 24 < 16 then lockD d b else d
/-- Whether the Length would not fit. -/
def overs (d : Dat) (b : Blk) : Prop := ¬ b.fro / 24 < b.to / 24 ∧ d.len = 4294967295
instance (d : Dat) (b : Blk) : Decidable (overs d b) := by unfold overs; exact inferInstance
def nextF (d : Dat) (b : Blk) : Dat := lockd (made d b) b
def nowF (c d : Dat) (b : Blk) : Dat := if b.fro / 24 < b.to / 24 then d else c
theorem fitP {a c : Dat} (k : a.Ok) (l : c.Ok) : 0 + (pcs a c).length ≤ (pcs zd zd).length := by rw [pcs_len k l, pcs_len zd_ok zd_ok]; omega
theorem allP {a c : Dat} (k : a.Ok) (l : c.Ok) : lay (pcs zd zd) 0 (pcs a c) = pcs a c := lay_all _ _ (by rw [pcs_len k l, pcs_len zd_ok zd_ok])
theorem fitD {a : Dat} (k : a.Ok) : 0 + (dcs a).length ≤ (dcs zd).length := by rw [dcs_len k, dcs_len zd_ok]; omega
theorem allD {a : Dat} (k : a.Ok) : lay (dcs zd) 0 (dcs a) = dcs a := lay_all _ _ (by rw [dcs_len k, dcs_len zd_ok])
theorem made_ok {d : Dat} {b : Blk} (k : d.Ok) (j : b.Ok) (h : ¬ overs d b) : (made d b).Ok := by
  unfold made
  split
  · exact turn_ok k j
  · rename_i hn
    have := k.len
    exact more_ok k (by unfold overs at h; omega)
theorem lockd_ok {d : Dat} {b : Blk} (k : d.Ok) (j : b.Ok) : (lockd d b).Ok := by
  unfold lockd
  split
  · exact lock_ok k j
  · exact k
theorem next_ok {d : Dat} {b : Blk} (k : d.Ok) (j : b.Ok) (h : ¬ overs d b) : (nextF d b).Ok := lockd_ok (made_ok k j h) j
theorem now_ok {c d : Dat} {b : Blk} (l : c.Ok) (k : d.Ok) : (nowF c d b).Ok := by
  unfold nowF
  split
  · exact k
  · exact l
theorem made_yes {c d : Dat} {b : Blk} (h : b.fro / 24 < b.to / 24) : made d b = turnD d b ∧ nowF c d b = d := by unfold made nowF; rw [if_pos h, if_pos h]; exact ⟨rfl, rfl⟩
theorem made_no {c d : Dat} {b : Blk} (h : ¬ b.fro / 24 < b.to / 24) : made d b = moreD d ∧ nowF c d b = c := by unfold made nowF; rw [if_neg h, if_neg h]; exact ⟨rfl, rfl⟩
theorem lockd_yes {d : Dat} {b : Blk} (h : b.to % 24 < 16) : lockd d b = lockD d b := by unfold lockd; rw [if_pos h]
theorem lockd_no {d : Dat} {b : Blk} (h : ¬ b.to % 24 < 16) : lockd d b = d := by unfold lockd; rw [if_neg h]
/-- What Follow answers. -/
def ansC (c d : Dat) (b : Blk) : Dat := if b.fro < b.to ∧ ¬ overs d b then nowF c d b else zd
def ansN (d : Dat) (b : Blk) : Dat := if b.fro < b.to ∧ ¬ overs d b then nextF d b else zd
def ansE (d : Dat) (b : Blk) : Int := if b.fro < b.to then (if overs d b then 5 else 0) else 6
theorem ansC_ok {c d : Dat} {b : Blk} (l : c.Ok) (k : d.Ok) : (ansC c d b).Ok := by
  unfold ansC
  split
  · exact now_ok l k
  · exact zd_ok
theorem ansN_ok {d : Dat} {b : Blk} (k : d.Ok) (j : b.Ok) : (ansN d b).Ok := by
  unfold ansN
  split
  · rename_i h; exact next_ok k j h.2
  · exact zd_ok
theorem ans_slot {c d : Dat} {b : Blk} (h : b.to ≤ b.fro) : ansC c d b = zd ∧ ansN d b = zd ∧ ansE d b = 6 := by
  unfold ansC ansN ansE
  rw [if_neg (by omega), if_neg (by omega), if_neg (by omega)]
  exact ⟨rfl, rfl, rfl⟩
theorem ans_over {c d : Dat} {b : Blk} (h : b.fro < b.to) (ho : overs d b) : ansC c d b = zd ∧ ansN d b = zd ∧ ansE d b = 5 := by
  unfold ansC ansN ansE
  rw [if_neg (fun x => x.2 ho), if_neg (fun x => x.2 ho), if_pos h, if_pos ho]
  exact ⟨rfl, rfl, rfl⟩
theorem ans_ok {c d : Dat} {b : Blk} (h : b.fro < b.to) (ho : ¬ overs d b) : ansC c d b = nowF c d b ∧ ansN d b = nextF d b ∧ ansE d b = 0 := by
  unfold ansC ansN ansE
  rw [if_pos ⟨h, ho⟩, if_pos ⟨h, ho⟩, if_pos h, if_neg ho]
  exact ⟨rfl, rfl, rfl⟩
end Go.Proofs.YtaihhbiocolhcaaDoor.Ep

/-
  The contracts of the document's answers for layer 8 (Seed, First, Follow) and of the law's 'own'. Over this seat's translation.
-/
namespace Go.Proofs.YtaihhbiocolhcaaDoor.Ep
open Go.ChangeShapes Go.WideShapes Go.ChangeAt Go.RowKit Go.Proofs.YtaihhbiocolhcaaDoor.Mem Go.Proofs.YtaihhbiocolhcaaDoor.Bt Go.Proofs.YtaihhbiocolhcaaDoor.Sha Go.Proofs.YtaihhbiocolhcaaDoor.Tg
set_option linter.unusedVariables false
set_option linter.unusedSimpArgs false

theorem zH : Mem.Zero Tryd.prog 23 (u8s zh) := z25
theorem fitH {h : List Nat} (k : H32 h) : 0 + (u8s h).length ≤ (u8s zh).length := by rw [h_len k, h_len zh_ok]; omega
theorem allH {h : List Nat} (k : H32 h) : lay (u8s zh) 0 (u8s h) = u8s h := lay_all _ _ (by rw [h_len k, h_len zh_ok])
end Go.Proofs.YtaihhbiocolhcaaDoor.Ep
