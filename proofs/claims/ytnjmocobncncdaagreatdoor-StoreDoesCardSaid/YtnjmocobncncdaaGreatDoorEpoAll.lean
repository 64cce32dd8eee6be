import Derived.Test.YtnjmocobncncdaaGreatDoorNumAll
import Derived.Test.YtnjmocobncncdaaGreatDoorMemAll
import Derived.BigQuiet
import Derived.Test.YtnjmocobncncdaaGreatDoorBytAll
import Derived.Test.YtnjmocobncncdaaGreatDoorShaAll
import Derived.Test.YtnjmocobncncdaaGreatDoorFitAll
import Derived.Test.YtnjmocobncncdaaGreatDoorTagAll
/-
  The contracts of some functions of packages slot and num over natural numbers, with what the walk needs of memory: nothing that was there changes ('Below'). Over this seat's translation.
-/
namespace Go.Proofs.YtnjmocobncncdaaGreatDoor.Slot
open Go.ChangeShapes Go.WideShapes Go.ChangeAt Go.RowKit Go.Proofs.YtnjmocobncncdaaGreatDoor.Mem
set_option linter.unusedVariables false

end Go.Proofs.YtnjmocobncncdaaGreatDoor.Slot

/-
  An epoch's data, pairs of them and blocks, as cells: what stands where, what a write leaves, how they are written out, '=='. Over this seat's translation.
-/
namespace Go.Proofs.YtnjmocobncncdaaGreatDoor.Ep
open Go.ChangeShapes Go.WideShapes Go.ChangeAt Go.RowKit Go.Proofs.YtnjmocobncncdaaGreatDoor.Mem Go.Proofs.YtnjmocobncncdaaGreatDoor.Bt Go.Proofs.YtnjmocobncncdaaGreatDoor.Sha
set_option linter.unusedVariables false
set_option linter.unusedSimpArgs false

/-- These cells stand at a place. -/
structure Has (cs : List Value) (o : Nat) (vs : List Value) : Prop where
  ex : ∃ p r, cs = p ++ (vs ++ r) ∧ p.length = o
theorem Has.refl (vs : List Value) : Has vs 0 vs := ⟨[], [], by simp, rfl⟩
theorem Has.left {cs a b : List Value} {o : Nat} (h : Has cs o (a ++ b)) : Has cs o a := by
  obtain ⟨p, r, e, hp⟩ := h.ex
  exact ⟨p, b ++ r, by rw [e, List.append_assoc], hp⟩
theorem Has.right {cs a b : List Value} {o : Nat} (h : Has cs o (a ++ b)) (n : Nat) (hn : a.length = n) : Has cs (o + n) b := by
  obtain ⟨p, r, e, hp⟩ := h.ex
  exact ⟨p ++ a, r, by rw [e]; simp only [List.append_assoc], by rw [List.length_append, hp, hn]⟩
theorem Has.head {cs b : List Value} {v : Value} {o : Nat} (h : Has cs o (v :: b)) : Has cs o [v] := Has.left (a := [v]) (b := b) h
theorem Has.tail {cs b : List Value} {v : Value} {o : Nat} (h : Has cs o (v :: b)) : Has cs (o + 1) b := Has.right (a := [v]) (b := b) h 1 rfl
theorem Has.get {cs : List Value} {o : Nat} {v : Value} (h : Has cs o [v]) : cs[o]? = some v := by
  obtain ⟨p, r, e, hp⟩ := h.ex
  rw [e, List.getElem?_append_right (by omega), hp, Nat.sub_self]
  rfl
theorem Has.range {w : World} {b o : Nat} {t : TypeId} {cs vs : List Value} (h : Has cs o vs) (hr : Row w b t cs) : w.rangeAt b o vs := hr.range o _ (fun j v hj => by
  obtain ⟨p, r, e, hp⟩ := h.ex
  rw [e, List.getElem?_append_right (by omega), hp, Nat.add_sub_cancel_left, List.getElem?_append_left (List.getElem?_eq_some_iff.1 hj).1]
  exact hj)
theorem Has.le {cs vs : List Value} {o : Nat} (h : Has cs o vs) : o + vs.length ≤ cs.length := by
  obtain ⟨p, r, e, hp⟩ := h.ex
  rw [e, List.length_append, List.length_append]
  omega
theorem Has.same {cs vs : List Value} {o : Nat} (h : Has cs o vs) : lay cs o vs = cs := by
  obtain ⟨p, r, e, hp⟩ := h.ex
  subst e hp
  unfold lay
  rw [List.take_left, ← List.append_assoc, List.drop_append_of_le_length (by rw [List.length_append]; omega), List.drop_eq_nil_of_le (by rw [List.length_append]; omega), List.nil_append]

/-- A digest. -/
structure H32 (h : List Nat) : Prop where
  len : h.length = 32
  lt : AllLt 256 h
/-- The zero digest. -/
def zh : List Nat := List.replicate 32 0
theorem zh_ok : H32 zh := ⟨rfl, fun x hx => by have := List.eq_of_mem_replicate hx; omega⟩
/-- What is told of an epoch. -/
structure Dat where
  led : List Nat
  seed : List Nat
  start : List Nat
  lock : List Nat
  len : Nat
structure Dat.Ok (d : Dat) : Prop where
  led : H32 d.led
  seed : H32 d.seed
  start : H32 d.start
  lock : H32 d.lock
  len : d.len < 4294967296
/-- A block that follows. -/
structure Blk where
  fro : Nat
  to : Nat
  prev : List Nat
  led : List Nat
  draw : List Nat
structure Blk.Ok (b : Blk) : Prop where
  fro : b.fro < 4294967296
  to : b.to < 4294967296
  prev : H32 b.prev
  led : H32 b.led
  draw : H32 b.draw
def num32 (n : Nat) : Value := .int .u32 (n : Int)
def dcs (d : Dat) : List Value := u8s d.led ++ (u8s d.seed ++ (u8s d.start ++ (u8s d.lock ++ [num32 d.len])))
def pcs (a c : Dat) : List Value := dcs a ++ dcs c
/-- The zero data. -/
def zd : Dat := ⟨zh, zh, zh, zh, 0⟩
theorem zd_ok : zd.Ok := ⟨zh_ok, zh_ok, zh_ok, zh_ok, by decide⟩
theorem h_len {h : List Nat} (k : H32 h) : (u8s h).length = 32 := by rw [u8s_length, k.len]
theorem dcs_len {d : Dat} (h : d.Ok) : (dcs d).length = 129 := by
  unfold dcs
  simp only [List.length_append, h_len h.led, h_len h.seed, h_len h.start, h_len h.lock, List.length_singleton]
theorem pcs_len {a c : Dat} (ha : a.Ok) (hc : c.Ok) : (pcs a c).length = 258 := by unfold pcs; rw [List.length_append, dcs_len ha, dcs_len hc]
theorem one_app {a b : List Value} (ha : OneCells a) (hb : OneCells b) : OneCells (a ++ b) := fun v hv => (List.mem_append.1 hv).elim (ha v) (hb v)
theorem one_num (n : Nat) : OneCells [num32 n] := by intro v hv; rw [List.mem_singleton.1 hv]; rfl
theorem dcs_one (d : Dat) : OneCells (dcs d) := one_app (u8s_one _) (one_app (u8s_one _) (one_app (u8s_one _) (one_app (u8s_one _) (one_num _))))
theorem pcs_one (a c : Dat) : OneCells (pcs a c) := one_app (dcs_one _) (dcs_one _)
section
variable {cs : List Value} {o : Nat} {d : Dat}
theorem d_led (h : Has cs o (dcs d)) : Has cs o (u8s d.led) := h.left
theorem d_seed (k : d.Ok) (h : Has cs o (dcs d)) : Has cs (o + 32) (u8s d.seed) := (h.right 32 (h_len k.led)).left
theorem d_start (k : d.Ok) (h : Has cs o (dcs d)) : Has cs (o + 64) (u8s d.start) := ((h.right 32 (h_len k.led)).right 32 (h_len k.seed)).left
theorem d_lock (k : d.Ok) (h : Has cs o (dcs d)) : Has cs (o + 96) (u8s d.lock) := (((h.right 32 (h_len k.led)).right 32 (h_len k.seed)).right 32 (h_len k.start)).left
theorem d_len (k : d.Ok) (h : Has cs o (dcs d)) : Has cs (o + 128) [num32 d.len] := (((h.right 32 (h_len k.led)).right 32 (h_len k.seed)).right 32 (h_len k.start)).right 32 (h_len k.lock)
theorem p_now {a c : Dat} (h : Has cs o (pcs a c)) : Has cs o (dcs a) := h.left
theorem p_next {a c : Dat} (k : a.Ok) (h : Has cs o (pcs a c)) : Has cs (o + 129) (dcs c) := h.right 129 (dcs_len k)
end
section
variable {d : Dat} {x : List Nat} (k : d.Ok) (hx : H32 x) (r : List Value)
include k hx
end
theorem lay_dat {d e : Dat} (k : d.Ok) (j : e.Ok) (r : List Value) : lay (dcs d ++ r) 0 (dcs e) = dcs e ++ r := lay_head _ _ _ (by rw [dcs_len k, dcs_len j])
/-- The second data of a pair. -/
theorem lay_snd {a : Dat} (k : a.Ok) (c : Dat) (o : Nat) (vs : List Value) : lay (pcs a c) (129 + o) vs = dcs a ++ lay (dcs c ++ []) o vs := by
  unfold pcs
  rw [List.append_nil, lay_skip _ _ _ o (dcs_len k)]
theorem lay_next {a c e : Dat} (k : a.Ok) (kc : c.Ok) (ke : e.Ok) : lay (pcs a c) 129 (dcs e) = pcs a e := by
  rw [show (129 : Nat) = 129 + 0 from rfl, lay_snd k, lay_dat kc ke, List.append_nil]
  rfl
theorem lay_now {a c e : Dat} (k : a.Ok) (ke : e.Ok) : lay (pcs a c) 0 (dcs e) = pcs e c := lay_dat k ke _
theorem szH {h : List Nat} (k : H32 h) : Sized Tryz.prog 32 (u8s h).length := by rw [h_len k]; exact sz25
theorem sz_dat {d : Dat} (h : d.Ok) : Sized Tryz.prog 40 (dcs d).length := by rw [dcs_len h]; exact ⟨.struct (Tryz.prog.fieldsOf 40), by kernel_rfl, rfl, by kernel_rfl⟩
theorem sz_rdat {d : Dat} (h : d.Ok) : Sized Tryz.prog 51 (dcs d).length := by rw [dcs_len h]; exact ⟨.struct (Tryz.prog.fieldsOf 51), by kernel_rfl, rfl, by kernel_rfl⟩
def pplaces : Nat → Option (Nat × Nat) := fun i => (#[(0, 129), (129, 129)] : Array (Nat × Nat))[i]?
section
variable {d : Dat} {x : List Nat} (k : d.Ok) (hx : H32 x) (rest : List (Nat × Value))
include k hx
end
theorem shape_rpair (parts : List (Nat × Value)) : Tryz.prog.built 53 parts = Instr.fill pplaces (pcs zd zd).toArray parts := by unfold pplaces; kernel_rfl
theorem built_rpair {a c : Dat} (ha : a.Ok) (hc : c.Ok) : Tryz.prog.built 53 [(0, .agg (dcs a).toArray), (1, .agg (dcs c).toArray)] = some (pcs a c).toArray := by
  rw [shape_rpair, fill_step pplaces _ 0 0 129 _ (dcs a) _ rfl rfl (dcs_len ha) (by rw [pcs_len zd_ok zd_ok]; omega), lay_now zd_ok ha, fill_step pplaces _ 1 129 129 _ (dcs c) _ rfl rfl (dcs_len hc) (by rw [pcs_len ha zd_ok]; omega), lay_next ha zd_ok hc, fill_done]
theorem u8s_int (l : List Nat) : ∀ v ∈ u8s l, ∃ m, v = .int .u8 m := by
  intro v hv
  unfold u8s at hv
  obtain ⟨n, _, rfl⟩ := List.mem_map.1 hv
  exact ⟨_, rfl⟩
set_option maxRecDepth 100000 in
theorem fit_hash (e : Nat) {h : List Nat} (k : H32 h) : Fit Tryz.prog (e + 2) 32 (u8s h) := fit_ints (n := 32) (e := 5) (by kernel_rfl) (by kernel_rfl) (by kernel_rfl) (h_len k) (u8s_int h)
theorem Has.chunk {cs vs : List Value} {o n : Nat} (h : Has cs o vs) (hn : vs.length = n) : chunk cs o n = vs := by
  obtain ⟨p, r, e, hp⟩ := h.ex
  unfold Mem.chunk
  subst e hp hn
  rw [List.drop_left, List.take_left]
set_option maxRecDepth 100000 in
theorem fit_dat (e : Nat) {d : Dat} (k : d.Ok) : Fit Tryz.prog (e + 3) 40 (dcs d) := by
  refine fit_struct [(32, 0), (32, 32), (32, 64), (32, 96), (33, 128)] (by kernel_rfl) (by kernel_rfl) (by kernel_rfl) (n := 129) (by kernel_rfl) (dcs_len k) ?_
  have hd := Has.refl (dcs d)
  have c1 : Tryz.prog.cellsOf 32 = 32 := by kernel_rfl
  have c2 : Tryz.prog.cellsOf 33 = 1 := by kernel_rfl
  intro p hp
  simp only [List.mem_cons, List.not_mem_nil, or_false] at hp
  rcases hp with rfl | rfl | rfl | rfl | rfl
  · rw [c1, (d_led hd).chunk (h_len k.led)]; exact fit_hash e k.led
  · have := (d_seed k hd).chunk (h_len k.seed)
    rw [Nat.zero_add] at this
    rw [c1, this]; exact fit_hash e k.seed
  · have := (d_start k hd).chunk (h_len k.start)
    rw [Nat.zero_add] at this
    rw [c1, this]; exact fit_hash e k.start
  · have := (d_lock k hd).chunk (h_len k.lock)
    rw [Nat.zero_add] at this
    rw [c1, this]; exact fit_hash e k.lock
  · have := (d_len k hd).chunk (n := 1) rfl
    rw [Nat.zero_add] at this
    rw [c2, this]; exact fit_int (by kernel_rfl) _
set_option maxRecDepth 100000 in
theorem fit_rdat (e : Nat) {d : Dat} (k : d.Ok) : Fit Tryz.prog (e + 3) 51 (dcs d) := by
  refine fit_struct [(32, 0), (32, 32), (32, 64), (32, 96), (33, 128)] (by kernel_rfl) (by kernel_rfl) (by kernel_rfl) (n := 129) (by kernel_rfl) (dcs_len k) ?_
  have hd := Has.refl (dcs d)
  have c1 : Tryz.prog.cellsOf 32 = 32 := by kernel_rfl
  have c2 : Tryz.prog.cellsOf 33 = 1 := by kernel_rfl
  intro p hp
  simp only [List.mem_cons, List.not_mem_nil, or_false] at hp
  rcases hp with rfl | rfl | rfl | rfl | rfl
  · rw [c1, (d_led hd).chunk (h_len k.led)]; exact fit_hash e k.led
  · have := (d_seed k hd).chunk (h_len k.seed)
    rw [Nat.zero_add] at this
    rw [c1, this]; exact fit_hash e k.seed
  · have := (d_start k hd).chunk (h_len k.start)
    rw [Nat.zero_add] at this
    rw [c1, this]; exact fit_hash e k.start
  · have := (d_lock k hd).chunk (h_len k.lock)
    rw [Nat.zero_add] at this
    rw [c1, this]; exact fit_hash e k.lock
  · have := (d_len k hd).chunk (n := 1) rfl
    rw [Nat.zero_add] at this
    rw [c2, this]; exact fit_int (by kernel_rfl) _
set_option maxRecDepth 100000 in
theorem fit_pair (e : Nat) {a c : Dat} (k : a.Ok) (j : c.Ok) : Fit Tryz.prog (e + 4) 42 (pcs a c) := by
  refine fit_struct [(40, 0), (40, 129)] (by kernel_rfl) (by kernel_rfl) (by kernel_rfl) (n := 258) (by kernel_rfl) (pcs_len k j) ?_
  have hd := Has.refl (pcs a c)
  have c1 : Tryz.prog.cellsOf 40 = 129 := by kernel_rfl
  intro p hp
  simp only [List.mem_cons, List.not_mem_nil, or_false] at hp
  rcases hp with rfl | rfl
  · rw [c1, (p_now hd).chunk (dcs_len k)]; exact fit_dat e k
  · have := (p_next k hd).chunk (dcs_len j)
    rw [Nat.zero_add] at this
    rw [c1, this]; exact fit_dat e j
set_option maxRecDepth 100000 in
theorem fit_rpair (e : Nat) {a c : Dat} (k : a.Ok) (j : c.Ok) : Fit Tryz.prog (e + 4) 53 (pcs a c) := by
  refine fit_struct [(51, 0), (51, 129)] (by kernel_rfl) (by kernel_rfl) (by kernel_rfl) (n := 258) (by kernel_rfl) (pcs_len k j) ?_
  have hd := Has.refl (pcs a c)
  have c1 : Tryz.prog.cellsOf 51 = 129 := by kernel_rfl
  intro p hp
  simp only [List.mem_cons, List.not_mem_nil, or_false] at hp
  rcases hp with rfl | rfl
  · rw [c1, (p_now hd).chunk (dcs_len k)]; exact fit_rdat e k
  · have := (p_next k hd).chunk (dcs_len j)
    rw [Nat.zero_add] at this
    rw [c1, this]; exact fit_rdat e j
section
variable {o : Oper} {a : Act}
end
end Go.Proofs.YtnjmocobncncdaaGreatDoor.Ep

/-
  The contracts of what changes an epoch's data, and of what puts a block behind a pair (package epoch): a checkpoint that is moved, a later epoch's begin, one block more, a draw that counts. Over this seat's translation.
-/
namespace Go.Proofs.YtnjmocobncncdaaGreatDoor.Ep
open Go.ChangeShapes Go.WideShapes Go.ChangeAt Go.RowKit Go.Proofs.YtnjmocobncncdaaGreatDoor.Mem Go.Proofs.YtnjmocobncncdaaGreatDoor.Bt Go.Proofs.YtnjmocobncncdaaGreatDoor.Sha Go.Proofs.YtnjmocobncncdaaGreatDoor.Tg
set_option linter.unusedVariables false
set_option linter.unusedSimpArgs false

theorem digest_lt (l : List Nat) : AllLt 256 (digest l) := by
  intro x hx
  unfold digest outOf at hx
  obtain ⟨y, _, hy⟩ := List.mem_flatMap.1 hx
  exact bytes4_lt y x hy
theorem tagD_lt (s : ByteArray) (l : List (List Nat)) : AllLt 256 (tagD s l) := by
  unfold tagD; split
  · exact digest_lt _
  · intro x hx; have := List.eq_of_mem_replicate hx; omega
/-- A seed, made of a seed and a draw. -/
def seedN (s x : List Nat) : List Nat := tagD ⟨#[115, 101, 101, 100]⟩ [s, x]
/-- The data of a later epoch's begin; of one block more; with a draw that counts. -/
def turnD (d : Dat) (b : Blk) : Dat := ⟨b.led, d.seed, b.prev, zh, 1⟩
def moreD (d : Dat) : Dat := ⟨d.led, d.seed, d.start, d.lock, d.len + 1⟩
def lockD (d : Dat) (b : Blk) : Dat := ⟨d.led, seedN d.seed b.draw, d.start, b.prev, d.len⟩
end Go.Proofs.YtnjmocobncncdaaGreatDoor.Ep

/-
  The contracts of package epoch: what puts a block behind a pair, First and Follow. Over this seat's translation.
-/
namespace Go.Proofs.YtnjmocobncncdaaGreatDoor.Ep
open Go.ChangeShapes Go.WideShapes Go.ChangeAt Go.RowKit Go.Proofs.YtnjmocobncncdaaGreatDoor.Mem Go.Proofs.YtnjmocobncncdaaGreatDoor.Bt Go.Proofs.YtnjmocobncncdaaGreatDoor.Sha Go.Proofs.YtnjmocobncncdaaGreatDoor.Tg
set_option linter.unusedVariables false
set_option linter.unusedSimpArgs false

/-- What Next is behind a block; with a draw that counts, where its slot is locking. -/
def made (d : Dat) (b : Blk) : Dat := if b.fro / 24 < b.to / 24 then turnD d b else moreD d
def lockd (d : Dat) (b : Blk) : Dat := if b.to % 24 < 16 then lockD d b else d
/-- Whether the Length would not fit. -/
def overs (d : Dat) (b : Blk) : Prop := ¬ b.fro / 24 < b.to / 24 ∧ d.len = 4294967295
instance (d : Dat) (b : Blk) : Decidable (overs d b) := by unfold overs; exact inferInstance
def nextF (d : Dat) (b : Blk) : Dat := lockd (made d b) b
def nowF (c d : Dat) (b : Blk) : Dat := if b.fro / 24 < b.to / 24 then d else c
/-- What Follow answers. -/
def ansC (c d : Dat) (b : Blk) : Dat := if b.fro < b.to ∧ ¬ overs d b then nowF c d b else zd
def ansN (d : Dat) (b : Blk) : Dat := if b.fro < b.to ∧ ¬ overs d b then nextF d b else zd
end Go.Proofs.YtnjmocobncncdaaGreatDoor.Ep

/-
  The contracts of the document's answers for layer 8 (Seed, First, Follow) and of the law's 'own'. Over this seat's translation.
-/
namespace Go.Proofs.YtnjmocobncncdaaGreatDoor.Ep
open Go.ChangeShapes Go.WideShapes Go.ChangeAt Go.RowKit Go.Proofs.YtnjmocobncncdaaGreatDoor.Mem Go.Proofs.YtnjmocobncncdaaGreatDoor.Bt Go.Proofs.YtnjmocobncncdaaGreatDoor.Sha Go.Proofs.YtnjmocobncncdaaGreatDoor.Tg
set_option linter.unusedVariables false
set_option linter.unusedSimpArgs false

theorem zH : Mem.Zero Tryz.prog 32 (u8s zh) := z25
theorem fitH {h : List Nat} (k : H32 h) : 0 + (u8s h).length ≤ (u8s zh).length := by rw [h_len k, h_len zh_ok]; omega
theorem allH {h : List Nat} (k : H32 h) : lay (u8s zh) 0 (u8s h) = u8s h := lay_all _ _ (by rw [h_len k, h_len zh_ok])
end Go.Proofs.YtnjmocobncncdaaGreatDoor.Ep
