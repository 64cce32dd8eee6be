import Derived.Test.YtghogoijjaiccaaNumAll
import Derived.Test.YtghogoijjaiccaaMemAll
import Derived.BigQuiet
import Derived.Test.YtghogoijjaiccaaBytAll
import Derived.Test.YtghogoijjaiccaaShaAll
import Derived.Test.YtghogoijjaiccaaFitAll
import Derived.Test.YtghogoijjaiccaaTagAll
/-
  The contracts of some functions of packages slot and num over natural numbers, with what the walk needs of memory: nothing that was there changes ('Below'). Over this seat's translation.
-/
namespace Go.Proofs.Ytghogoijjaiccaa.Slot
open Go.ChangeShapes Go.WideShapes Go.ChangeAt Go.RowKit Go.Proofs.Ytghogoijjaiccaa.Mem
set_option linter.unusedVariables false

theorem partedB_any (n b : Nat) (w : World) (h1 : n < 4294967296) (b0 : 1 ≤ b) (b1 : b < 4294967296) :
    Calls Try.prog 78 #[.int .u32 (n : Int), .int .u32 (b : Int)] w fun e w' => e = .returned (.tuple #[.int .u32 ((n : Int) / (b : Int)), .int .u32 ((n : Int) % (b : Int))]) ∧ Below w.heap.size w w' := by
  have hz : ((b : Int) != 0) = true := bne_iff_ne.2 (by omega)
  have hz2 : ((b : Int) == 0) = false := beq_eq_false_iff_ne.2 (by omega)
  have hd0 : 0 ≤ (n : Int) / (b : Int) := Int.ediv_nonneg (by omega) (by omega)
  have hd1 : (n : Int) / (b : Int) ≤ 4294967295 := Int.le_trans (Int.ediv_le_self (b : Int) (by omega)) (by omega)
  have hm0 : 0 ≤ (n : Int) % (b : Int) := Int.emod_nonneg (n : Int) (by omega)
  have hm1 : (n : Int) % (b : Int) ≤ 4294967295 := by have := Int.emod_lt_of_pos (n : Int) (by omega : 0 < (b : Int)); omega
  go_enter Try.func78, Try.ntmps78
  go_wp2_with fail
  go_quiet (fail)
  go_wp2
  go_ret2
  exact ⟨rfl, below_drewN _ _ _⟩
theorem epochB_any (n : Nat) (w : World) (h1 : n < 4294967296) :
    Calls Try.prog 60 #[.int .u32 (n : Int)] w fun e w' => e = .returned (.int .u32 ((n / 24 : Nat) : Int)) ∧ Below w.heap.size w w' := by
  have C := partedB_any n 24 w h1 (by omega) (by omega)
  go_enter Try.func60, Try.ntmps60
  go_wp2_with fail
  refine C.mono ?_
  rintro e w1 ⟨rfl, g1⟩
  go_wp2
  go_ret
  exact ⟨congrArg (fun n => Ending.returned (.int .u32 n)) (by omega), g1⟩
theorem placeB_any (n : Nat) (w : World) (h1 : n < 4294967296) :
    Calls Try.prog 61 #[.int .u32 (n : Int)] w fun e w' => e = .returned (.int .u32 ((n % 24 : Nat) : Int)) ∧ Below w.heap.size w w' := by
  have C := partedB_any n 24 w h1 (by omega) (by omega)
  go_enter Try.func61, Try.ntmps61
  go_wp2_with fail
  refine C.mono ?_
  rintro e w1 ⟨rfl, g1⟩
  go_wp2
  go_ret
  exact ⟨congrArg (fun n => Ending.returned (.int .u32 n)) (by omega), g1⟩
theorem repoch_nat (n : Nat) (w : World) (h1 : n < 4294967296) :
    Calls Try.prog 64 #[.int .u32 (n : Int)] w fun e w' => e = .returned (.int .u32 ((n / 24 : Nat) : Int)) ∧ w = w' :=
  (repoch_any (n : Int) w (by omega) (by omega)).mono fun e w' h => ⟨by rw [h.1]; exact congrArg (fun n => Ending.returned (.int .u32 n)) (by omega), h.2⟩
end Go.Proofs.Ytghogoijjaiccaa.Slot

/-
  An epoch's data, pairs of them and blocks, as cells: what stands where, what a write leaves, how they are written out, '=='. Over this seat's translation.
-/
namespace Go.Proofs.Ytghogoijjaiccaa.Ep
open Go.ChangeShapes Go.WideShapes Go.ChangeAt Go.RowKit Go.Proofs.Ytghogoijjaiccaa.Mem Go.Proofs.Ytghogoijjaiccaa.Bt Go.Proofs.Ytghogoijjaiccaa.Sha
set_option linter.unusedVariables false
set_option linter.unusedSimpArgs false

/-- These cells stand at a place. -/
structure Has (cs : List Value) (o : Nat) (vs : List Value) : Prop where
  ex : ∃ p r, cs = p ++ (vs ++ r) ∧ p.length = o
theorem Has.refl (vs : List Value) : Has vs 0 vs := ⟨[], [], by simp, rfl⟩
theorem Has.left {cs a b : List Value} {o : Nat} (h : Has cs o (a ++ b)) : Has cs o a := by
  obtain ⟨p, r, e, hp⟩ := h.ex
  exact ⟨p, b ++ r, by rw [e, List.append_assoc], hp⟩
theorem Has.right {cs a b : List Value} {o : Nat} (h : Has cs o (a ++ b)) (n : Nat) (hn : a.length = n) : Has cs (o + n) b := by
  obtain ⟨p, r, e, hp⟩ := h.ex
  exact ⟨p ++ a, r, by rw [e]; simp only [List.append_assoc], by rw [List.length_append, hp, hn]⟩
theorem Has.head {cs b : List Value} {v : Value} {o : Nat} (h : Has cs o (v :: b)) : Has cs o [v] := Has.left (a := [v]) (b := b) h
theorem Has.tail {cs b : List Value} {v : Value} {o : Nat} (h : Has cs o (v :: b)) : Has cs (o + 1) b := Has.right (a := [v]) (b := b) h 1 rfl
theorem Has.get {cs : List Value} {o : Nat} {v : Value} (h : Has cs o [v]) : cs[o]? = some v := by
  obtain ⟨p, r, e, hp⟩ := h.ex
  rw [e, List.getElem?_append_right (by omega), hp, Nat.sub_self]
  rfl
theorem Has.range {w : World} {b o : Nat} {t : TypeId} {cs vs : List Value} (h : Has cs o vs) (hr : Row w b t cs) : w.rangeAt b o vs := hr.range o _ (fun j v hj => by
  obtain ⟨p, r, e, hp⟩ := h.ex
  rw [e, List.getElem?_append_right (by omega), hp, Nat.add_sub_cancel_left, List.getElem?_append_left (List.getElem?_eq_some_iff.1 hj).1]
  exact hj)
theorem Has.le {cs vs : List Value} {o : Nat} (h : Has cs o vs) : o + vs.length ≤ cs.length := by
  obtain ⟨p, r, e, hp⟩ := h.ex
  rw [e, List.length_append, List.length_append]
  omega
theorem Has.same {cs vs : List Value} {o : Nat} (h : Has cs o vs) : lay cs o vs = cs := by
  obtain ⟨p, r, e, hp⟩ := h.ex
  subst e hp
  unfold lay
  rw [List.take_left, ← List.append_assoc, List.drop_append_of_le_length (by rw [List.length_append]; omega), List.drop_eq_nil_of_le (by rw [List.length_append]; omega), List.nil_append]

/-- A digest. -/
structure H32 (h : List Nat) : Prop where
  len : h.length = 32
  lt : AllLt 256 h
/-- The zero digest. -/
def zh : List Nat := List.replicate 32 0
theorem zh_ok : H32 zh := ⟨rfl, fun x hx => by have := List.eq_of_mem_replicate hx; omega⟩
/-- What is told of an epoch. -/
structure Dat where
  led : List Nat
  seed : List Nat
  start : List Nat
  lock : List Nat
  len : Nat
structure Dat.Ok (d : Dat) : Prop where
  led : H32 d.led
  seed : H32 d.seed
  start : H32 d.start
  lock : H32 d.lock
  len : d.len < 4294967296
/-- A block that follows. -/
structure Blk where
  fro : Nat
  to : Nat
  prev : List Nat
  led : List Nat
  draw : List Nat
structure Blk.Ok (b : Blk) : Prop where
  fro : b.fro < 4294967296
  to : b.to < 4294967296
  prev : H32 b.prev
  led : H32 b.led
  draw : H32 b.draw
def num32 (n : Nat) : Value := .int .u32 (n : Int)
def dcs (d : Dat) : List Value := u8s d.led ++ (u8s d.seed ++ (u8s d.start ++ (u8s d.lock ++ [num32 d.len])))
def pcs (a c : Dat) : List Value := dcs a ++ dcs c
/-- The zero data. -/
def zd : Dat := ⟨zh, zh, zh, zh, 0⟩
theorem z32 : 0 < 4294967296 := by decide
theorem zd_ok : zd.Ok := ⟨zh_ok, zh_ok, zh_ok, zh_ok, by decide⟩
theorem h_len {h : List Nat} (k : H32 h) : (u8s h).length = 32 := by rw [u8s_length, k.len]
theorem dcs_len {d : Dat} (h : d.Ok) : (dcs d).length = 129 := by
  unfold dcs
  simp only [List.length_append, h_len h.led, h_len h.seed, h_len h.start, h_len h.lock, List.length_singleton]
theorem pcs_len {a c : Dat} (ha : a.Ok) (hc : c.Ok) : (pcs a c).length = 258 := by unfold pcs; rw [List.length_append, dcs_len ha, dcs_len hc]
theorem one_app {a b : List Value} (ha : OneCells a) (hb : OneCells b) : OneCells (a ++ b) := fun v hv => (List.mem_append.1 hv).elim (ha v) (hb v)
theorem one_num (n : Nat) : OneCells [num32 n] := by intro v hv; rw [List.mem_singleton.1 hv]; rfl
theorem dcs_one (d : Dat) : OneCells (dcs d) := one_app (u8s_one _) (one_app (u8s_one _) (one_app (u8s_one _) (one_app (u8s_one _) (one_num _))))
theorem pcs_one (a c : Dat) : OneCells (pcs a c) := one_app (dcs_one _) (dcs_one _)
section
variable {cs : List Value} {o : Nat} {d : Dat}
theorem d_led (h : Has cs o (dcs d)) : Has cs o (u8s d.led) := h.left
theorem d_seed (k : d.Ok) (h : Has cs o (dcs d)) : Has cs (o + 32) (u8s d.seed) := (h.right 32 (h_len k.led)).left
theorem d_start (k : d.Ok) (h : Has cs o (dcs d)) : Has cs (o + 64) (u8s d.start) := ((h.right 32 (h_len k.led)).right 32 (h_len k.seed)).left
theorem d_lock (k : d.Ok) (h : Has cs o (dcs d)) : Has cs (o + 96) (u8s d.lock) := (((h.right 32 (h_len k.led)).right 32 (h_len k.seed)).right 32 (h_len k.start)).left
theorem d_len (k : d.Ok) (h : Has cs o (dcs d)) : Has cs (o + 128) [num32 d.len] := (((h.right 32 (h_len k.led)).right 32 (h_len k.seed)).right 32 (h_len k.start)).right 32 (h_len k.lock)
theorem p_now {a c : Dat} (h : Has cs o (pcs a c)) : Has cs o (dcs a) := h.left
theorem p_next {a c : Dat} (k : a.Ok) (h : Has cs o (pcs a c)) : Has cs (o + 129) (dcs c) := h.right 129 (dcs_len k)
end
section
variable {d : Dat} {x : List Nat} (k : d.Ok) (hx : H32 x) (r : List Value)
include k hx
theorem lay_led : lay (dcs d ++ r) 0 (u8s x) = dcs ⟨x, d.seed, d.start, d.lock, d.len⟩ ++ r := by
  unfold dcs
  simp only [List.append_assoc]
  rw [lay_head _ _ _ (by rw [h_len hx, h_len k.led])]
theorem lay_seed : lay (dcs d ++ r) 32 (u8s x) = dcs ⟨d.led, x, d.start, d.lock, d.len⟩ ++ r := by
  unfold dcs
  simp only [List.append_assoc]
  rw [show (32 : Nat) = 32 + 0 from rfl, lay_skip _ _ _ 0 (h_len k.led), lay_head _ _ _ (by rw [h_len hx, h_len k.seed])]
theorem lay_start : lay (dcs d ++ r) 64 (u8s x) = dcs ⟨d.led, d.seed, x, d.lock, d.len⟩ ++ r := by
  unfold dcs
  simp only [List.append_assoc]
  rw [show (64 : Nat) = 32 + (32 + 0) from rfl, lay_skip _ _ _ _ (h_len k.led), lay_skip _ _ _ _ (h_len k.seed), lay_head _ _ _ (by rw [h_len hx, h_len k.start])]
theorem lay_lock : lay (dcs d ++ r) 96 (u8s x) = dcs ⟨d.led, d.seed, d.start, x, d.len⟩ ++ r := by
  unfold dcs
  simp only [List.append_assoc]
  rw [show (96 : Nat) = 32 + (32 + (32 + 0)) from rfl, lay_skip _ _ _ _ (h_len k.led), lay_skip _ _ _ _ (h_len k.seed), lay_skip _ _ _ _ (h_len k.start), lay_head _ _ _ (by rw [h_len hx, h_len k.lock])]
end
theorem set_lay {cs : List Value} {o : Nat} {v : Value} (h : o < cs.length) : cs.set o v = lay cs o [v] := by
  rw [List.set_eq_take_append_cons_drop, if_pos h]
  simp [lay]
theorem lay_lenv {d : Dat} (k : d.Ok) (n : Nat) (r : List Value) : lay (dcs d ++ r) 128 [num32 n] = dcs ⟨d.led, d.seed, d.start, d.lock, n⟩ ++ r := by
  unfold dcs
  simp only [List.append_assoc]
  rw [show (128 : Nat) = 32 + (32 + (32 + (32 + 0))) from rfl, lay_skip _ _ _ _ (h_len k.led), lay_skip _ _ _ _ (h_len k.seed), lay_skip _ _ _ _ (h_len k.start), lay_skip _ _ _ _ (h_len k.lock), lay_head [num32 d.len] r [num32 n] rfl]
theorem set_len {d : Dat} (k : d.Ok) (n : Nat) (r : List Value) : (dcs d ++ r).set 128 (num32 n) = dcs ⟨d.led, d.seed, d.start, d.lock, n⟩ ++ r := by
  rw [set_lay (by rw [List.length_append, dcs_len k]; omega), lay_lenv k]
theorem lay_dat {d e : Dat} (k : d.Ok) (j : e.Ok) (r : List Value) : lay (dcs d ++ r) 0 (dcs e) = dcs e ++ r := lay_head _ _ _ (by rw [dcs_len k, dcs_len j])
/-- The second data of a pair. -/
theorem lay_snd {a : Dat} (k : a.Ok) (c : Dat) (o : Nat) (vs : List Value) : lay (pcs a c) (129 + o) vs = dcs a ++ lay (dcs c ++ []) o vs := by
  unfold pcs
  rw [List.append_nil, lay_skip _ _ _ o (dcs_len k)]
theorem lay_next {a c e : Dat} (k : a.Ok) (kc : c.Ok) (ke : e.Ok) : lay (pcs a c) 129 (dcs e) = pcs a e := by
  rw [show (129 : Nat) = 129 + 0 from rfl, lay_snd k, lay_dat kc ke, List.append_nil]
  rfl
theorem lay_now {a c e : Dat} (k : a.Ok) (ke : e.Ok) : lay (pcs a c) 0 (dcs e) = pcs e c := lay_dat k ke _
theorem szH {h : List Nat} (k : H32 h) : Sized Try.prog 24 (u8s h).length := by rw [h_len k]; exact sz25
theorem sz_dat {d : Dat} (h : d.Ok) : Sized Try.prog 31 (dcs d).length := by rw [dcs_len h]; exact ⟨.struct (Try.prog.fieldsOf 31), by kernel_rfl, rfl, by kernel_rfl⟩
theorem z_dat : Mem.Zero Try.prog 31 (dcs zd) := by unfold Mem.Zero; kernel_rfl
theorem sz_rdat {d : Dat} (h : d.Ok) : Sized Try.prog 52 (dcs d).length := by rw [dcs_len h]; exact ⟨.struct (Try.prog.fieldsOf 52), by kernel_rfl, rfl, by kernel_rfl⟩
theorem z_rdat : Mem.Zero Try.prog 52 (dcs zd) := by unfold Mem.Zero; kernel_rfl
theorem sz_pair {a c : Dat} (h : a.Ok) (k : c.Ok) : Sized Try.prog 33 (pcs a c).length := by rw [pcs_len h k]; exact ⟨.struct (Try.prog.fieldsOf 33), by kernel_rfl, rfl, by kernel_rfl⟩
theorem z_pair : Mem.Zero Try.prog 33 (pcs zd zd) := by unfold Mem.Zero; kernel_rfl
def dplaces : Nat → Option (Nat × Nat) := fun i => (#[(0, 32), (32, 32), (64, 32), (96, 32), (128, 1)] : Array (Nat × Nat))[i]?
def pplaces : Nat → Option (Nat × Nat) := fun i => (#[(0, 129), (129, 129)] : Array (Nat × Nat))[i]?
section
variable {d : Dat} {x : List Nat} (k : d.Ok) (hx : H32 x) (rest : List (Nat × Value))
include k hx
theorem f_led : Instr.fill dplaces (dcs d).toArray ((0, .agg (u8s x).toArray) :: rest) = Instr.fill dplaces (dcs ⟨x, d.seed, d.start, d.lock, d.len⟩).toArray rest := by
  rw [fill_step dplaces (dcs d) 0 0 32 _ (u8s x) rest rfl rfl (h_len hx) (by rw [dcs_len k]; omega)]
  have := lay_led k hx []
  rw [List.append_nil, List.append_nil] at this
  rw [this]
end
theorem f_len {d : Dat} (k : d.Ok) (n : Nat) (rest : List (Nat × Value)) : Instr.fill dplaces (dcs d).toArray ((4, num32 n) :: rest) = Instr.fill dplaces (dcs ⟨d.led, d.seed, d.start, d.lock, n⟩).toArray rest := by
  rw [fill_step dplaces (dcs d) 4 128 1 (num32 n) [num32 n] rest rfl rfl rfl (by rw [dcs_len k]; omega)]
  have := lay_lenv k n []
  rw [List.append_nil, List.append_nil] at this
  rw [this]
theorem shape_dat (parts : List (Nat × Value)) : Try.prog.built 31 parts = Instr.fill dplaces (dcs ⟨zh, zh, zh, zh, 0⟩).toArray parts := by unfold dplaces; kernel_rfl
theorem built_dat1 {l : List Nat} (hl : H32 l) : Try.prog.built 31 [(0, .agg (u8s l).toArray), (4, num32 1)] = some (dcs ⟨l, zh, zh, zh, 1⟩).toArray := by
  rw [shape_dat, f_led (d := ⟨zh, zh, zh, zh, 0⟩) zd_ok hl, f_len (d := ⟨l, zh, zh, zh, 0⟩) ⟨hl, zh_ok, zh_ok, zh_ok, z32⟩, fill_done]
theorem shape_pair (parts : List (Nat × Value)) : Try.prog.built 33 parts = Instr.fill pplaces (pcs zd zd).toArray parts := by unfold pplaces; kernel_rfl
theorem built_pair {a c : Dat} (ha : a.Ok) (hc : c.Ok) : Try.prog.built 33 [(0, .agg (dcs a).toArray), (1, .agg (dcs c).toArray)] = some (pcs a c).toArray := by
  rw [shape_pair, fill_step pplaces _ 0 0 129 _ (dcs a) _ rfl rfl (dcs_len ha) (by rw [pcs_len zd_ok zd_ok]; omega), lay_now zd_ok ha, fill_step pplaces _ 1 129 129 _ (dcs c) _ rfl rfl (dcs_len hc) (by rw [pcs_len ha zd_ok]; omega), lay_next ha zd_ok hc, fill_done]
theorem shape_rpair (parts : List (Nat × Value)) : Try.prog.built 54 parts = Instr.fill pplaces (pcs zd zd).toArray parts := by unfold pplaces; kernel_rfl
theorem built_rpair {a c : Dat} (ha : a.Ok) (hc : c.Ok) : Try.prog.built 54 [(0, .agg (dcs a).toArray), (1, .agg (dcs c).toArray)] = some (pcs a c).toArray := by
  rw [shape_rpair, fill_step pplaces _ 0 0 129 _ (dcs a) _ rfl rfl (dcs_len ha) (by rw [pcs_len zd_ok zd_ok]; omega), lay_now zd_ok ha, fill_step pplaces _ 1 129 129 _ (dcs c) _ rfl rfl (dcs_len hc) (by rw [pcs_len ha zd_ok]; omega), lay_next ha zd_ok hc, fill_done]
theorem u8s_int (l : List Nat) : ∀ v ∈ u8s l, ∃ m, v = .int .u8 m := by
  intro v hv
  unfold u8s at hv
  obtain ⟨n, _, rfl⟩ := List.mem_map.1 hv
  exact ⟨_, rfl⟩
set_option maxRecDepth 100000 in
theorem fit_hash (e : Nat) {h : List Nat} (k : H32 h) : Fit Try.prog (e + 2) 24 (u8s h) := fit_ints (n := 32) (e := 5) (by kernel_rfl) (by kernel_rfl) (by kernel_rfl) (h_len k) (u8s_int h)
theorem Has.chunk {cs vs : List Value} {o n : Nat} (h : Has cs o vs) (hn : vs.length = n) : chunk cs o n = vs := by
  obtain ⟨p, r, e, hp⟩ := h.ex
  unfold Mem.chunk
  subst e hp hn
  rw [List.drop_left, List.take_left]
set_option maxRecDepth 100000 in
theorem fit_dat (e : Nat) {d : Dat} (k : d.Ok) : Fit Try.prog (e + 3) 31 (dcs d) := by
  refine fit_struct [(24, 0), (24, 32), (24, 64), (24, 96), (22, 128)] (by kernel_rfl) (by kernel_rfl) (by kernel_rfl) (n := 129) (by kernel_rfl) (dcs_len k) ?_
  have hd := Has.refl (dcs d)
  have c1 : Try.prog.cellsOf 24 = 32 := by kernel_rfl
  have c2 : Try.prog.cellsOf 22 = 1 := by kernel_rfl
  intro p hp
  simp only [List.mem_cons, List.not_mem_nil, or_false] at hp
  rcases hp with rfl | rfl | rfl | rfl | rfl
  · rw [c1, (d_led hd).chunk (h_len k.led)]; exact fit_hash e k.led
  · have := (d_seed k hd).chunk (h_len k.seed)
    rw [Nat.zero_add] at this
    rw [c1, this]; exact fit_hash e k.seed
  · have := (d_start k hd).chunk (h_len k.start)
    rw [Nat.zero_add] at this
    rw [c1, this]; exact fit_hash e k.start
  · have := (d_lock k hd).chunk (h_len k.lock)
    rw [Nat.zero_add] at this
    rw [c1, this]; exact fit_hash e k.lock
  · have := (d_len k hd).chunk (n := 1) rfl
    rw [Nat.zero_add] at this
    rw [c2, this]; exact fit_int (by kernel_rfl) _
set_option maxRecDepth 100000 in
theorem fit_rdat (e : Nat) {d : Dat} (k : d.Ok) : Fit Try.prog (e + 3) 52 (dcs d) := by
  refine fit_struct [(24, 0), (24, 32), (24, 64), (24, 96), (22, 128)] (by kernel_rfl) (by kernel_rfl) (by kernel_rfl) (n := 129) (by kernel_rfl) (dcs_len k) ?_
  have hd := Has.refl (dcs d)
  have c1 : Try.prog.cellsOf 24 = 32 := by kernel_rfl
  have c2 : Try.prog.cellsOf 22 = 1 := by kernel_rfl
  intro p hp
  simp only [List.mem_cons, List.not_mem_nil, or_false] at hp
  rcases hp with rfl | rfl | rfl | rfl | rfl
  · rw [c1, (d_led hd).chunk (h_len k.led)]; exact fit_hash e k.led
  · have := (d_seed k hd).chunk (h_len k.seed)
    rw [Nat.zero_add] at this
    rw [c1, this]; exact fit_hash e k.seed
  · have := (d_start k hd).chunk (h_len k.start)
    rw [Nat.zero_add] at this
    rw [c1, this]; exact fit_hash e k.start
  · have := (d_lock k hd).chunk (h_len k.lock)
    rw [Nat.zero_add] at this
    rw [c1, this]; exact fit_hash e k.lock
  · have := (d_len k hd).chunk (n := 1) rfl
    rw [Nat.zero_add] at this
    rw [c2, this]; exact fit_int (by kernel_rfl) _
set_option maxRecDepth 100000 in
theorem fit_pair (e : Nat) {a c : Dat} (k : a.Ok) (j : c.Ok) : Fit Try.prog (e + 4) 33 (pcs a c) := by
  refine fit_struct [(31, 0), (31, 129)] (by kernel_rfl) (by kernel_rfl) (by kernel_rfl) (n := 258) (by kernel_rfl) (pcs_len k j) ?_
  have hd := Has.refl (pcs a c)
  have c1 : Try.prog.cellsOf 31 = 129 := by kernel_rfl
  intro p hp
  simp only [List.mem_cons, List.not_mem_nil, or_false] at hp
  rcases hp with rfl | rfl
  · rw [c1, (p_now hd).chunk (dcs_len k)]; exact fit_dat e k
  · have := (p_next k hd).chunk (dcs_len j)
    rw [Nat.zero_add] at this
    rw [c1, this]; exact fit_dat e j
set_option maxRecDepth 100000 in
theorem fit_rpair (e : Nat) {a c : Dat} (k : a.Ok) (j : c.Ok) : Fit Try.prog (e + 4) 54 (pcs a c) := by
  refine fit_struct [(52, 0), (52, 129)] (by kernel_rfl) (by kernel_rfl) (by kernel_rfl) (n := 258) (by kernel_rfl) (pcs_len k j) ?_
  have hd := Has.refl (pcs a c)
  have c1 : Try.prog.cellsOf 52 = 129 := by kernel_rfl
  intro p hp
  simp only [List.mem_cons, List.not_mem_nil, or_false] at hp
  rcases hp with rfl | rfl
  · rw [c1, (p_now hd).chunk (dcs_len k)]; exact fit_rdat e k
  · have := (p_next k hd).chunk (dcs_len j)
    rw [Nat.zero_add] at this
    rw [c1, this]; exact fit_rdat e j
section
variable {o : Oper} {a : Act}
end
end Go.Proofs.Ytghogoijjaiccaa.Ep

/-
  The contracts of what changes an epoch's data, and of what puts a block behind a pair (package epoch): a checkpoint that is moved, a later epoch's begin, one block more, a draw that counts. Over this seat's translation.
-/
namespace Go.Proofs.Ytghogoijjaiccaa.Ep
open Go.ChangeShapes Go.WideShapes Go.ChangeAt Go.RowKit Go.Proofs.Ytghogoijjaiccaa.Mem Go.Proofs.Ytghogoijjaiccaa.Bt Go.Proofs.Ytghogoijjaiccaa.Sha Go.Proofs.Ytghogoijjaiccaa.Tg
set_option linter.unusedVariables false
set_option linter.unusedSimpArgs false

end Go.Proofs.Ytghogoijjaiccaa.Ep

/-
  The contracts of package epoch: what puts a block behind a pair, First and Follow. Over this seat's translation.
-/
namespace Go.Proofs.Ytghogoijjaiccaa.Ep
open Go.ChangeShapes Go.WideShapes Go.ChangeAt Go.RowKit Go.Proofs.Ytghogoijjaiccaa.Mem Go.Proofs.Ytghogoijjaiccaa.Bt Go.Proofs.Ytghogoijjaiccaa.Sha Go.Proofs.Ytghogoijjaiccaa.Tg
set_option linter.unusedVariables false
set_option linter.unusedSimpArgs false

/-- Whether the Length would not fit. -/
def overs (d : Dat) (b : Blk) : Prop := ¬ b.fro / 24 < b.to / 24 ∧ d.len = 4294967295
instance (d : Dat) (b : Blk) : Decidable (overs d b) := by unfold overs; exact inferInstance
theorem fitP {a c : Dat} (k : a.Ok) (l : c.Ok) : 0 + (pcs a c).length ≤ (pcs zd zd).length := by rw [pcs_len k l, pcs_len zd_ok zd_ok]; omega
theorem allP {a c : Dat} (k : a.Ok) (l : c.Ok) : lay (pcs zd zd) 0 (pcs a c) = pcs a c := lay_all _ _ (by rw [pcs_len k l, pcs_len zd_ok zd_ok])
theorem fitD {a : Dat} (k : a.Ok) : 0 + (dcs a).length ≤ (dcs zd).length := by rw [dcs_len k, dcs_len zd_ok]; omega
theorem allD {a : Dat} (k : a.Ok) : lay (dcs zd) 0 (dcs a) = dcs a := lay_all _ _ (by rw [dcs_len k, dcs_len zd_ok])
set_option maxHeartbeats 4000000 in
set_option maxRecDepth 100000 in
theorem first_any (x : List Nat) (w : World) (k : H32 x) :
    Calls Try.prog 39 #[.agg (u8s x).toArray] w fun e w' => e = .returned (.agg (pcs ⟨x, zh, zh, zh, 1⟩ ⟨x, zh, zh, zh, 1⟩).toArray) ∧ Below w.heap.size w w' := by
  have K := Lib.hid k
  have KD := Lib.hid (show (Dat.mk x zh zh zh 1).Ok from ⟨k, zh_ok, zh_ok, zh_ok, (by decide : 1 < 4294967296)⟩)
  have B1 := Lib.hid (built_dat1 k)
  clear k
  generalize Dat.mk x zh zh zh 1 = d at KD B1 ⊢
  have B2 := Lib.hid (built_pair KD.out KD.out)
  go_enter Try.func39, Try.ntmps39
  go_wp2_with (first
    | ((with_reducible refine at_slot 1 ?_); (refine arm_box (o := ⟨some 1, _, _, _, _, _⟩) rfl _ _ rfl (u8s x) rfl ?_); intro X w1 Xe hw1 nw1)
    | ((with_reducible refine at_slot 2 ?_); (refine arm_alloc (o := ⟨some 2, _, _, _, _, _⟩) rfl _ rfl (pcs zd zd) z_pair ?_); intro R w2 Re hw2 nw2)
    | ((with_reducible refine at_slot 4 ?_); (refine arm_load (o := ⟨some 4, _, _, _, _, _⟩) rfl _ _ rfl X 0 rfl (u8s x) ((Has.refl _).range (hw1.old nw2.below)) (szH K.out) ?_))
    | ((with_reducible refine at_slot 5 ?_); (refine arm_build (o := ⟨some 5, _, _, _, _, _⟩) rfl _ _ rfl (dcs d) (by simp only [List.map_toArray, List.map_cons, List.map_nil]; exact B1.out) ?_))
    | ((with_reducible refine at_slot 3 ?_); (refine arm_alloc (o := ⟨some 3, _, _, _, _, _⟩) rfl _ rfl (dcs zd) z_dat ?_); intro V w3 Ve hw3 nw3)
    | ((with_reducible refine arm_store (o := ⟨none, _, _, _, _, _⟩) rfl _ _ _ rfl V 0 rfl (dcs d) rfl _ _ (hw3) (fitD KD.out) (dcs_one _) (sz_dat KD.out) ?_); intro w4 hw4 ow4 sw4)
    | ((with_reducible refine at_slot 6 ?_); (refine arm_load (o := ⟨some 6, _, _, _, _, _⟩) rfl _ _ rfl V 0 rfl (dcs d) ((Has.refl _).range (hw4.congr (allD KD.out))) (sz_dat KD.out) ?_))
    | ((with_reducible refine at_slot 7 ?_); (refine arm_load (o := ⟨some 7, _, _, _, _, _⟩) rfl _ _ rfl V 0 rfl (dcs d) ((Has.refl _).range (hw4.congr (allD KD.out))) (sz_dat KD.out) ?_))
    | ((with_reducible refine at_slot 8 ?_); (refine arm_build (o := ⟨some 8, _, _, _, _, _⟩) rfl _ _ rfl (pcs d d) (by simp only [List.map_toArray, List.map_cons, List.map_nil]; exact B2.out) ?_))
    | ((with_reducible refine arm_store (o := ⟨none, _, _, _, _, _⟩) rfl _ _ _ rfl R 0 rfl (pcs d d) rfl _ _ ((hw2.old nw3.below).only ow4 (by have := hw2.lt; have := Ve.out; omega)) (fitP KD.out KD.out) (pcs_one _ _) (sz_pair KD.out KD.out) ?_); intro w5 hw5 ow5 sw5))
  have e1 := Xe.out; have e2 := Re.out; have e3 := Ve.out
  have s1 := nw1.size; have s2 := nw2.size; have s3 := nw3.size; have s4 := sw4.out
  have lR : w.heap.size ≤ R := by omega
  have bel : Below w.heap.size w w4 := below_only (below_step (below_step nw1.below (by omega) nw2.below) (by omega) nw3.below) ow4 (by omega) (by omega)
  exact bodyPost_ret (v := .agg (pcs d d).toArray) (result_row (p := 2) (ty := 33) (u := 33) (by kernel_rfl) _ _ R _ rfl (hw5.congr (allP KD.out KD.out)) (sz_pair KD.out KD.out)) rfl ⟨rfl, below_only bel ow5 lR bel.size⟩
def ansE (d : Dat) (b : Blk) : Int := if b.fro < b.to then (if overs d b then 5 else 0) else 6
end Go.Proofs.Ytghogoijjaiccaa.Ep

/-
  The contracts of the document's answers for layer 8 (Seed, First, Follow) and of the law's 'own'. Over this seat's translation.
-/
namespace Go.Proofs.Ytghogoijjaiccaa.Ep
open Go.ChangeShapes Go.WideShapes Go.ChangeAt Go.RowKit Go.Proofs.Ytghogoijjaiccaa.Mem Go.Proofs.Ytghogoijjaiccaa.Bt Go.Proofs.Ytghogoijjaiccaa.Sha Go.Proofs.Ytghogoijjaiccaa.Tg
set_option linter.unusedVariables false
set_option linter.unusedSimpArgs false

theorem zH : Mem.Zero Try.prog 24 (u8s zh) := z25
theorem fitH {h : List Nat} (k : H32 h) : 0 + (u8s h).length ≤ (u8s zh).length := by rw [h_len k, h_len zh_ok]; omega
theorem allH {h : List Nat} (k : H32 h) : lay (u8s zh) 0 (u8s h) = u8s h := lay_all _ _ (by rw [h_len k, h_len zh_ok])
end Go.Proofs.Ytghogoijjaiccaa.Ep
