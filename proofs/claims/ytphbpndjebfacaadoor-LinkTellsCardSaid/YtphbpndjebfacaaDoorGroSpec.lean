/-
  What a child is, over numbers and lists: its errors in order, the state; a child of a state that is right is right. Over this seat's translation.
-/
import Derived.Test.YtphbpndjebfacaaDoorGroLeaf
import Derived.Test.YtphbpndjebfacaaDoorStaLeaf
import Derived.Test.YtphbpndjebfacaaDoorStaDo
import Derived.Test.YtphbpndjebfacaaDoorWinAll
import Derived.Test.YtphbpndjebfacaaDoorEpoAll
namespace Go.Proofs.YtphbpndjebfacaaDoor.Gr
open Go.ChangeShapes Go.WideShapes Go.ChangeAt Go.RowKit Go.Proofs.YtphbpndjebfacaaDoor.Mem Go.Proofs.YtphbpndjebfacaaDoor.Bt Go.Proofs.YtphbpndjebfacaaDoor.Rg Go.Proofs.YtphbpndjebfacaaDoor.Wn Go.Proofs.YtphbpndjebfacaaDoor.Sa
open Go.Proofs.YtphbpndjebfacaaDoor.Ep (H32 Dat Blk zh zh_ok num32 Has h_len one_app one_num szH ansC ansN ansE overs nowF nextF)
set_option linter.unusedVariables false
set_option linter.unusedSimpArgs false

/-- The block as package epoch is told of it. -/
def blkOf (s : Sta) (b : Gb) : Blk := ⟨s.slot, b.slot, digS s, s.led, b.draw⟩
theorem blkOf_ok {s : Sta} {b : Gb} (k : s.Ok) (j : b.Ok) : (blkOf s b).Ok := ⟨k.slot, j.slot, digS_ok s, k.led, j.draw⟩
/-- What may go wrong, in order; the first of it. -/
def errs (s : Sta) (b : Gb) : List Int := [behE s.slot b.slot, addE s.len 1, addE s.count (entN s.slot b.slot), putE s.last s.counts (b.slot / 3), ansE s.next (blkOf s b)]
def chE (s : Sta) (b : Gb) : Int := firstE (errs s b)
/-- The child, if nothing goes wrong. -/
def grown (s : Sta) (b : Gb) : Sta := ⟨digS s, b.led, b.draw, b.slot, addV s.len 1, addV s.count (entN s.slot b.slot), putM s.min s.last s.counts b.slot, putL s.last s.counts (b.slot / 3), putC s.last s.counts (b.slot / 3), ansC s.now s.next (blkOf s b), ansN s.next (blkOf s b)⟩
def chS (s : Sta) (b : Gb) : Sta := if chE s b = 0 then grown s b else zs
theorem putC_lt {L u : Nat} {cs : List Nat} (h : Rt L cs) : AllLt 4294967296 (putC L cs u) := by
  unfold putC
  split
  · rename_i hp
    exact fun x hx => Nat.lt_trans (small_lt (putd_small h.1 hp.2) (putd_len _ _ _) x hx) (by omega)
  · intro x hx
    simp only [List.mem_cons, List.not_mem_nil, or_false] at hx
    omega
theorem putM_le {M L s : Nat} {cs : List Nat} : putM M L cs s ≤ M := by
  unfold putM
  split
  · exact relN_le _ _ _ _
  · omega
theorem putL_le {L u : Nat} {cs : List Nat} : putL L cs u ≤ u := by unfold putL; split <;> omega
theorem grown_ok {s : Sta} {b : Gb} (k : s.Ok) (r : SRt s) (j : b.Ok) : (grown s b).Ok where
  prev := digS_ok s
  led := j.led
  draw := j.draw
  slot := j.slot
  len := addV_lt _ _
  count := addV_lt _ _
  min := Nat.lt_of_le_of_lt putM_le k.min
  last := Nat.lt_of_le_of_lt putL_le (by have := j.slot; omega)
  counts := putC_len _ _ _
  clt := putC_lt r.1.2
  now := Ep.ansC_ok k.now k.next
  next := Ep.ansN_ok k.next (blkOf_ok k j)
theorem chS_ok {s : Sta} {b : Gb} (k : s.Ok) (r : SRt s) (j : b.Ok) : (chS s b).Ok := by
  unfold chS
  split
  · exact grown_ok k r j
  · exact zs_ok
theorem firstE5 {a b c d e : Int} (h : firstE [a, b, c, d, e] = 0) : a = 0 ∧ b = 0 ∧ c = 0 ∧ d = 0 ∧ e = 0 := by
  simp only [firstE] at h
  split at h
  · split at h
    · split at h
      · split at h
        · split at h
          · rename_i h1 h2 h3 h4 h5; exact ⟨h1, h2, h3, h4, h5⟩
          · contradiction
        · contradiction
      · contradiction
    · contradiction
  · contradiction
/-- What holds where nothing goes wrong. -/
structure Fine (s : Sta) (b : Gb) : Prop where
  behind : s.slot < b.slot
  len : s.len + 1 < 4294967296
  count : s.count + entN s.slot b.slot < 4294967296
  put : s.last ≤ b.slot / 3 ∧ atG s.last s.counts ((b.slot / 3 : Nat) : Int) < 3
  follow : ¬ overs s.next (blkOf s b)
theorem chE_zero {s : Sta} {b : Gb} : chE s b = 0 ↔ Fine s b := by
  constructor
  · intro h
    obtain ⟨h1, h2, h3, h4, h5⟩ := firstE5 h
    have g1 : s.slot < b.slot := by unfold behE at h1; split at h1 <;> omega
    refine ⟨g1, ?_, ?_, ?_, ?_⟩
    · unfold addE at h2; split at h2 <;> omega
    · unfold addE at h3; split at h3 <;> omega
    · unfold putE at h4
      split at h4
      · omega
      · split at h4
        · exact ⟨by omega, by assumption⟩
        · omega
    · intro ho
      unfold ansE at h5
      rw [if_pos (show (blkOf s b).fro < (blkOf s b).to from g1), if_pos ho] at h5
      omega
  · intro h
    have e1 : behE s.slot b.slot = 0 := if_neg (by have := h.behind; omega)
    have e2 : addE s.len 1 = 0 := if_pos h.len
    have e3 : addE s.count (entN s.slot b.slot) = 0 := if_pos h.count
    have e4 : putE s.last s.counts (b.slot / 3) = 0 := by unfold putE; rw [if_neg (by have := h.put.1; omega), if_pos h.put.2]
    have e5 : ansE s.next (blkOf s b) = 0 := by unfold ansE; rw [if_pos (show (blkOf s b).fro < (blkOf s b).to from h.behind), if_neg h.follow]
    unfold chE errs
    rw [e1, e2, e3, e4, e5]
    simp [firstE]
theorem chS_fine {s : Sta} {b : Gb} (h : Fine s b) : chS s b = grown s b := if_pos (chE_zero.2 h)
theorem chS_bad {s : Sta} {b : Gb} (h : chE s b ≠ 0) : chS s b = zs := if_neg h
/-- The child where nothing goes wrong, part by part. -/
theorem grown_fine {s : Sta} {b : Gb} (h : Fine s b) : grown s b = ⟨digS s, b.led, b.draw, b.slot, s.len + 1, s.count + entN s.slot b.slot, relN s.min s.last s.counts b.slot, b.slot / 3, putd s.last s.counts (b.slot / 3), nowF s.now s.next (blkOf s b), nextF s.next (blkOf s b)⟩ := by
  obtain ⟨p1, p2, p3, _, _⟩ := put_yes h.put
  obtain ⟨a1, a2, _⟩ := Ep.ans_ok (c := s.now) (show (blkOf s b).fro < (blkOf s b).to from h.behind) h.follow
  unfold grown
  rw [p1, p2, a1, a2, show addV s.len 1 = s.len + 1 from if_pos h.len, show addV s.count (entN s.slot b.slot) = s.count + entN s.slot b.slot from if_pos h.count, show putM s.min s.last s.counts b.slot = relN s.min s.last s.counts b.slot from if_pos h.put]
theorem nextF_len (d : Dat) (b : Blk) : (nextF d b).len = if b.fro / 24 < b.to / 24 then 1 else d.len + 1 := by
  unfold nextF Ep.lockd Ep.made
  by_cases ht : b.fro / 24 < b.to / 24
  · rw [if_pos ht, if_pos ht]
    split <;> rfl
  · rw [if_neg ht, if_neg ht]
    split <;> rfl
/-- A child of a state that is right is right. -/
theorem grown_right {s : Sta} {b : Gb} (r : SRt s) (h : Fine s b) : SRt (grown s b) := by
  obtain ⟨r1, r2, ⟨r3, r4⟩, r5, r6, ⟨r7, r8⟩, r9⟩ := r
  have hb := h.behind
  have hn := nextF_len s.next (blkOf s b)
  rw [grown_fine h]
  have f1 : (blkOf s b).fro = s.slot := rfl
  have f2 : (blkOf s b).to = b.slot := rfl
  rw [f1, f2] at hn
  have he : entN s.slot b.slot = if s.slot / 24 < b.slot / 24 then 1 else 0 := rfl
  refine ⟨⟨Nat.le_trans (relN_le _ _ _ _) r1.1, putd_rt r1.2.1 h.put.2⟩, rfl, ⟨?_, ?_⟩, ?_, ?_, ⟨?_, ?_⟩, ?_⟩
  · show 1 ≤ s.len + 1; omega
  · show s.len + 1 ≤ b.slot + 1; omega
  · show s.count + entN s.slot b.slot ≤ b.slot / 24
    split at he <;> omega
  · show s.count + entN s.slot b.slot < s.len + 1
    have := entN_le s.slot b.slot
    omega
  · show 1 ≤ (nextF s.next (blkOf s b)).len
    rw [hn]; split <;> omega
  · show (nextF s.next (blkOf s b)).len ≤ b.slot % 24 + 1
    rw [hn]; split <;> omega
  · show (nextF s.next (blkOf s b)).len ≤ s.len + 1
    rw [hn]; split <;> omega
theorem gen_right (x : List Nat) : SRt (genS x) := by
  refine ⟨?_, ?_, ?_, ?_, ?_, ?_, ?_⟩ <;> simp only [genS] <;> decide
theorem built_sall {s : Sta} (k : s.Ok) : Tryd.prog.built 35 [(0, .agg (u8s s.prev).toArray), (1, .agg (u8s s.led).toArray), (2, .agg (u8s s.draw).toArray), (3, num32 s.slot), (4, num32 s.len), (5, num32 s.count), (6, .agg (Wn.wcs s.min s.last s.counts).toArray), (7, .agg (Ep.pcs s.now s.next).toArray)] = some (scs s).toArray := by
  have z := zs_ok
  rw [shape_sta, f_prev z _ k.prev, f_ledg (s := { zs with prev := s.prev }) ⟨k.prev, z.led, z.draw, z.slot, z.len, z.count, z.min, z.last, z.counts, z.clt, z.now, z.next⟩ _ k.led,
    f_drw (s := { zs with prev := s.prev, led := s.led }) ⟨k.prev, k.led, z.draw, z.slot, z.len, z.count, z.min, z.last, z.counts, z.clt, z.now, z.next⟩ _ k.draw,
    f_slt (s := { zs with prev := s.prev, led := s.led, draw := s.draw }) ⟨k.prev, k.led, k.draw, z.slot, z.len, z.count, z.min, z.last, z.counts, z.clt, z.now, z.next⟩,
    f_lngth (s := { zs with prev := s.prev, led := s.led, draw := s.draw, slot := s.slot }) ⟨k.prev, k.led, k.draw, k.slot, z.len, z.count, z.min, z.last, z.counts, z.clt, z.now, z.next⟩,
    f_cnt (s := { zs with prev := s.prev, led := s.led, draw := s.draw, slot := s.slot, len := s.len }) ⟨k.prev, k.led, k.draw, k.slot, k.len, z.count, z.min, z.last, z.counts, z.clt, z.now, z.next⟩,
    f_wn (s := { zs with prev := s.prev, led := s.led, draw := s.draw, slot := s.slot, len := s.len, count := s.count }) ⟨k.prev, k.led, k.draw, k.slot, k.len, k.count, z.min, z.last, z.counts, z.clt, z.now, z.next⟩ _ _ _ _ k.counts,
    f_eps (s := { zs with prev := s.prev, led := s.led, draw := s.draw, slot := s.slot, len := s.len, count := s.count, min := s.min, last := s.last, counts := s.counts }) ⟨k.prev, k.led, k.draw, k.slot, k.len, k.count, k.min, k.last, k.counts, k.clt, z.now, z.next⟩ _ k.now k.next, fill_done]
theorem built_grown {s : Sta} {b : Gb} (k : (grown s b).Ok) : Tryd.prog.built 35 [(0, .agg (u8s (digS s)).toArray), (1, .agg (u8s b.led).toArray), (2, .agg (u8s b.draw).toArray), (3, num32 b.slot), (4, num32 (addV s.len 1)), (5, num32 (addV s.count (entN s.slot b.slot))), (6, .agg (wcs (putM s.min s.last s.counts b.slot) (putL s.last s.counts (b.slot / 3)) (putC s.last s.counts (b.slot / 3))).toArray), (7, .agg (Ep.pcs (ansC s.now s.next (blkOf s b)) (ansN s.next (blkOf s b))).toArray)] = some (scs (grown s b)).toArray := by
  have h := built_sall k
  rw [show (grown s b).prev = digS s from rfl, show (grown s b).led = b.led from rfl, show (grown s b).draw = b.draw from rfl, show (grown s b).slot = b.slot from rfl, show (grown s b).len = addV s.len 1 from rfl, show (grown s b).count = addV s.count (entN s.slot b.slot) from rfl, show (grown s b).min = putM s.min s.last s.counts b.slot from rfl, show (grown s b).last = putL s.last s.counts (b.slot / 3) from rfl, show (grown s b).counts = putC s.last s.counts (b.slot / 3) from rfl, show (grown s b).now = ansC s.now s.next (blkOf s b) from rfl, show (grown s b).next = ansN s.next (blkOf s b) from rfl] at h
  exact h
theorem built_blkOf {s : Sta} {b : Gb} (k : (blkOf s b).Ok) : Tryd.prog.built 82 [(0, num32 s.slot), (1, num32 b.slot), (2, .agg (u8s (digS s)).toArray), (3, .agg (u8s s.led).toArray), (4, .agg (u8s b.draw).toArray)] = some (Ep.bcs (blkOf s b)).toArray := by
  have h := Ep.built_blk k
  rw [show (blkOf s b).fro = s.slot from rfl, show (blkOf s b).to = b.slot from rfl, show (blkOf s b).prev = digS s from rfl, show (blkOf s b).led = s.led from rfl, show (blkOf s b).draw = b.draw from rfl] at h
  exact h
/-- '[]Errno{..}' of five. -/
theorem run_five (a b c d e : Int) (w : World) : (Instr.buildSlice 109 5 #[(0, .int .i64 a), (1, .int .i64 b), (2, .int .i64 c), (3, .int .i64 d), (4, .int .i64 e)]).run Tryd.prog w = .ok (.slice (some ⟨w.heap.size, 0, none⟩) 5 5) (w.alloc (.cells #[.int .i64 a, .int .i64 b, .int .i64 c, .int .i64 d, .int .i64 e] 48)) := by kernel_rfl
section
variable {ops : Array Oper} {rest : List Oper} {o : Oper} {a : Act} {w : World} {Q : Exit → Act → World → Prop}
theorem arm_five (hgd : o.guard = none) (x1 x2 x3 x4 x5 : Operand) (ho : o.op = .buildSlice 109 5 #[(0, x1), (1, x2), (2, x3), (3, x4), (4, x5)]) (e1 e2 e3 e4 e5 : Int) (h1 : a.eval x1 = .int .i64 e1) (h2 : a.eval x2 = .int .i64 e2) (h3 : a.eval x3 = .int .i64 e3) (h4 : a.eval x4 = .int .i64 e4) (h5 : a.eval x5 = .int .i64 e5)
    (h : ∀ b w2, Hid (b = w.heap.size) → Row w2 b 48 [.int .i64 e1, .int .i64 e2, .int .i64 e3, .int .i64 e4, .int .i64 e5] → New w w2 → wpList Tryd.prog ops Q rest (a.put o.dst (.slice (some ⟨b, 0, none⟩) 5 5)) w2) : wpList Tryd.prog ops Q (o :: rest) a w := by
  refine wpList_plain hgd fun K hK => ?_
  unfold Oper.wp execOp
  simp only [ho, List.map_toArray, List.map_cons, List.map_nil, h1, h2, h3, h4, h5, Sem.run_bind, run_five, Result.andThen_ok, Sem.run_pure]
  exact hK _ _ (h _ _ rfl (heap_alloc_new _ _) (new_alloc _ _))
end
/-- The first error of a row of five. -/
theorem first_five (e1 e2 e3 e4 e5 : Int) (B : Nat) (w : World) (hr : Row w B 48 [.int .i64 e1, .int .i64 e2, .int .i64 e3, .int .i64 e4, .int .i64 e5]) :
    Calls Tryd.prog 31 #[.slice (some ⟨B, 0, none⟩) 5 5] w fun e w' => e = .returned (.int .i64 (firstE [e1, e2, e3, e4, e5])) ∧ w = w' :=
  first_any [e1, e2, e3, e4, e5] B 0 5 w (by simp) fun j hj => by
    rw [Nat.zero_add]
    refine hr.cell ?_
    have hj' : j < 5 := hj
    obtain rfl | rfl | rfl | rfl | rfl : j = 0 ∨ j = 1 ∨ j = 2 ∨ j = 3 ∨ j = 4 := by omega
    all_goals rfl
end Go.Proofs.YtphbpndjebfacaaDoor.Gr
