/-
  The contracts of the document's num, data, Bytes and Hash of layer 9, and of its One of layer 3, over this seat's translation.
-/
import Derived.Test.YtnjmocobncncdaaGreatDoorStaDo
import Derived.Test.YtnjmocobncncdaaGreatDoorStaRRead
import Derived.Test.YtnjmocobncncdaaGreatDoorStaSpec
import Derived.Test.YtnjmocobncncdaaGreatDoorWireRefAll
import Derived.Test.YtnjmocobncncdaaGreatDoorBytAll
namespace Go.Proofs.YtnjmocobncncdaaGreatDoor.Sa
open Go.ChangeShapes Go.WideShapes Go.ChangeAt Go.RowKit Go.Proofs.YtnjmocobncncdaaGreatDoor.Mem Go.Proofs.YtnjmocobncncdaaGreatDoor.Bt Go.Proofs.YtnjmocobncncdaaGreatDoor.Wi Go.Proofs.YtnjmocobncncdaaGreatDoor.Tg Go.Proofs.YtnjmocobncncdaaGreatDoor.Sha Go.Proofs.YtnjmocobncncdaaGreatDoor.Rg
open Go.Proofs.YtnjmocobncncdaaGreatDoor.Ep (H32 Dat zh zh_ok num32 dcs dcs_len dcs_one zd zd_ok Has h_len one_app one_num szH sz_rdat d_led d_seed d_start d_lock d_len zH fitH allH)
set_option linter.unusedVariables false
set_option linter.unusedSimpArgs false

/-- A slice of bytes that the call makes. -/
structure SPost (w : World) (n : Nat) (bs : List Nat) (e : Ending) (w' : World) : Prop where
  ex : ∃ p cap, e = .returned (.slice p n cap) ∧ Bt.Own w' w.heap.size p cap bs
  bel : Below w.heap.size w w'
set_option maxRecDepth 100000 in
theorem rnum_any (n : Nat) (w : World) (hn : n < 4294967296) : Calls Tryz.prog 35 #[.int .u32 (n : Int)] w (SPost w 4 (put n 4)) := by
  have CP := Lib.hid (put_any n 4 w (by omega) (by omega))
  go_enter Tryz.func35, Tryz.ntmps35
  go_wp2_with fail
  refine CP.out.mono ?_
  rintro e w2 ⟨⟨p, cap, rfl, hO⟩, hB⟩
  go_wp2_with fail
  go_ret
  exact ⟨⟨p, cap, rfl, hO⟩, hB⟩
theorem own_hq {w : World} {base c : Nat} {q : Option Addr} {bs : List Nat} (h : Bt.Own w base q c bs) (n : Nat) (hn : n = bs.length) : q = none → n = 0 ∧ c = 0 := fun e => by
  have := own_none h e
  exact ⟨by omega, this.2⟩
/-- An epoch's data's bytes. -/
def datB (d : Dat) : List Nat := [] ++ d.led ++ d.seed ++ d.start ++ d.lock ++ put d.len 4
theorem datB_len {d : Dat} (k : d.Ok) : (datB d).length = 132 := by
  unfold datB
  simp only [List.length_append, List.length_nil, k.led.len, k.seed.len, k.start.len, k.lock.len, put_length]
set_option maxHeartbeats 4000000 in
set_option maxRecDepth 100000 in
theorem rdata_any (d : Dat) (w : World) (k : d.Ok) : Calls Tryz.prog 36 #[.agg (dcs d).toArray] w (SPost w 132 (datB d)) := by
  have KK := Lib.hid k
  have CN := Lib.hid (fun w0 => rnum_any d.len w0 k.len)
  have HDB : Hid (datB d = [] ++ d.led ++ d.seed ++ d.start ++ d.lock ++ put d.len 4) := Lib.hid rfl
  obtain ⟨db, hdb⟩ : ∃ db, db = datB d := ⟨_, rfl⟩
  rw [← hdb] at HDB ⊢
  clear k hdb
  go_enter Tryz.func36, Tryz.ntmps36
  go_wp2_with (first
    | ((with_reducible refine at_slot 1 ?_); (refine arm_box (o := ⟨some 1, _, _, _, _, _⟩) rfl _ _ rfl (dcs d) rfl ?_); intro X w1 Xe hw1 nw1)
    | ((with_reducible refine at_slot 4 ?_); (refine arm_buildSlice (o := ⟨some 4, _, _, _, _, _⟩) rfl 0 _ rfl [] #[] (by simp) bs0 ?_); intro b2 w2 hb2 hR2 nw2; have hX2 := hw1.old nw2.below)
    | ((with_reducible refine at_slot 6 ?_); (refine arm_sliceAll (o := ⟨some 6, _, _, _, _, _⟩) rfl _ _ rfl 32 5 (by kernel_rfl) (by kernel_rfl) X 0 rfl (by omega) ?_))
    | ((with_reducible refine at_slot 7 ?_); (refine arm_append (o := ⟨some 7, _, _, _, _, _⟩) rfl _ _ rfl w1.heap.size (some ⟨b2, 0, none⟩) 0 0 ([]) (by simp only [List.length_append, List.length_nil]) rfl (own_new hR2 (by have := hb2.out; omega)) (some ⟨X, 0, none⟩) 32 32 d.led rfl KK.out.led.len.symm (fun e => by cases e) (fun _ => ⟨X, 0, rfl, (d_led (Has.refl _)).range hX2⟩) (by simp only [List.length_append, List.length_nil, KK.out.led.len, KK.out.seed.len, KK.out.start.len, KK.out.lock.len]; omega) (by have := nw2.size; omega) ?_); intro p3 c3 w3 hO3 hB3; have hX3 := (hX2).below hB3 (by have := hw1.lt; omega); have x3 : w3.cell? ⟨X, 128, none⟩ = some (.int .u32 (d.len : Int)) := hX3.cell (d_len KK.out (Has.refl _)).get)
    | ((with_reducible refine at_slot 10 ?_); (refine arm_sliceAll (o := ⟨some 10, _, _, _, _, _⟩) rfl _ _ rfl 32 5 (by kernel_rfl) (by kernel_rfl) X 32 rfl (by omega) ?_))
    | ((with_reducible refine at_slot 11 ?_); (refine arm_append (o := ⟨some 11, _, _, _, _, _⟩) rfl _ _ rfl w1.heap.size (p3) 32 c3 ([] ++ d.led) (by simp only [List.length_append, List.length_nil, KK.out.led.len]) rfl hO3 (some ⟨X, 32, none⟩) 32 32 d.seed rfl KK.out.seed.len.symm (fun e => by cases e) (fun _ => ⟨X, 32, rfl, (d_seed KK.out (Has.refl _)).range hX3⟩) (by simp only [List.length_append, List.length_nil, KK.out.led.len, KK.out.seed.len, KK.out.start.len, KK.out.lock.len]; omega) (by have := nw2.size; have := hB3.size; omega) ?_); intro p4 c4 w4 hO4 hB4; have hX4 := (hX3).below hB4 (by have := hw1.lt; omega); have x4 : w4.cell? ⟨X, 128, none⟩ = some (.int .u32 (d.len : Int)) := hX4.cell (d_len KK.out (Has.refl _)).get)
    | ((with_reducible refine at_slot 14 ?_); (refine arm_sliceAll (o := ⟨some 14, _, _, _, _, _⟩) rfl _ _ rfl 32 5 (by kernel_rfl) (by kernel_rfl) X 64 rfl (by omega) ?_))
    | ((with_reducible refine at_slot 15 ?_); (refine arm_append (o := ⟨some 15, _, _, _, _, _⟩) rfl _ _ rfl w1.heap.size (p4) 64 c4 ([] ++ d.led ++ d.seed) (by simp only [List.length_append, List.length_nil, KK.out.led.len, KK.out.seed.len]) rfl hO4 (some ⟨X, 64, none⟩) 32 32 d.start rfl KK.out.start.len.symm (fun e => by cases e) (fun _ => ⟨X, 64, rfl, (d_start KK.out (Has.refl _)).range hX4⟩) (by simp only [List.length_append, List.length_nil, KK.out.led.len, KK.out.seed.len, KK.out.start.len, KK.out.lock.len]; omega) (by have := nw2.size; have := hB3.size; have := hB4.size; omega) ?_); intro p5 c5 w5 hO5 hB5; have hX5 := (hX4).below hB5 (by have := hw1.lt; omega); have x5 : w5.cell? ⟨X, 128, none⟩ = some (.int .u32 (d.len : Int)) := hX5.cell (d_len KK.out (Has.refl _)).get)
    | ((with_reducible refine at_slot 18 ?_); (refine arm_sliceAll (o := ⟨some 18, _, _, _, _, _⟩) rfl _ _ rfl 32 5 (by kernel_rfl) (by kernel_rfl) X 96 rfl (by omega) ?_))
    | ((with_reducible refine at_slot 19 ?_); (refine arm_append (o := ⟨some 19, _, _, _, _, _⟩) rfl _ _ rfl w1.heap.size (p5) 96 c5 ([] ++ d.led ++ d.seed ++ d.start) (by simp only [List.length_append, List.length_nil, KK.out.led.len, KK.out.seed.len, KK.out.start.len]) rfl hO5 (some ⟨X, 96, none⟩) 32 32 d.lock rfl KK.out.lock.len.symm (fun e => by cases e) (fun _ => ⟨X, 96, rfl, (d_lock KK.out (Has.refl _)).range hX5⟩) (by simp only [List.length_append, List.length_nil, KK.out.led.len, KK.out.seed.len, KK.out.start.len, KK.out.lock.len]; omega) (by have := nw2.size; have := hB3.size; have := hB4.size; have := hB5.size; omega) ?_); intro p6 c6 w6 hO6 hB6; have hX6 := (hX5).below hB6 (by have := hw1.lt; omega); have x6 : w6.cell? ⟨X, 128, none⟩ = some (.int .u32 (d.len : Int)) := hX6.cell (d_len KK.out (Has.refl _)).get)
    )
  have z1 := nw1.size; have z2 := nw2.size; have eX := Xe.out
  have zz3 := hB3.size; have zz4 := hB4.size; have zz5 := hB5.size; have zz6 := hB6.size
  have bel6 : Below w.heap.size w w6 := nw1.below.trans (((((nw2.below.mono (Nat.le_refl _)).trans hB3).trans hB4).trans hB5).trans hB6 |>.mono (by omega))
  have hO := Lib.hid hO6
  have hsz : w1.heap.size ≤ w6.heap.size := by omega
  have hlo : w.heap.size ≤ w1.heap.size := by omega
  clear nw2 hR2 hb2 hX2 hX3 hX4 hX5 hX6 hO3 hO4 hO5 hO6 hB3 hB4 hB5 hB6 x3 x4 x5 x6 z1 z2 zz3 zz4 zz5 zz6 eX hw1 nw1 Xe
  refine (CN.out w6).mono ?_
  rintro e w7 ⟨⟨q, cq, rfl, hQ⟩, hB7⟩
  have bel7 : Below w.heap.size w w7 := below_step bel6 bel6.size hB7
  go_wp2_with (first
    | ((with_reducible refine at_slot 24 ?_); (refine arm_append (o := ⟨some 24, _, _, _, _, _⟩) rfl _ _ rfl w1.heap.size p6 128 c6 ([] ++ d.led ++ d.seed ++ d.start ++ d.lock) (by simp only [List.length_append, List.length_nil, KK.out.led.len, KK.out.seed.len, KK.out.start.len, KK.out.lock.len]) rfl (hO.out.below hB7) q 4 cq (put d.len 4) rfl (put_length 4 _).symm (own_hq hQ 4 (put_length 4 _).symm) hQ.bytes (by simp only [List.length_append, List.length_nil, KK.out.led.len, KK.out.seed.len, KK.out.start.len, KK.out.lock.len, put_length]; omega) (by have := hB7.size; omega) ?_); intro p8 c8 w8 hO8 hB8))
  go_ret
  exact ⟨⟨p8, c8, rfl, by rw [HDB.out]; exact own_mono hO8 hlo⟩, bel7.trans (hB8.mono hlo)⟩
theorem boff_num {j : Nat} (h : j ≤ 9) : boff (3 + j) = 96 + 4 * j := by
  have e : j = 0 ∨ j = 1 ∨ j = 2 ∨ j = 3 ∨ j = 4 ∨ j = 5 ∨ j = 6 ∨ j = 7 ∨ j = 8 ∨ j = 9 := by omega
  rcases e with rfl | rfl | rfl | rfl | rfl | rfl | rfl | rfl | rfl | rfl <;> rfl
theorem num_not {j : Nat} (h : j < 9) : isH (3 + j) = false := by
  have e : j = 0 ∨ j = 1 ∨ j = 2 ∨ j = 3 ∨ j = 4 ∨ j = 5 ∨ j = 6 ∨ j = 7 ∨ j = 8 := by omega
  rcases e with rfl | rfl | rfl | rfl | rfl | rfl | rfl | rfl | rfl <;> rfl
def numsS (s : Sta) : List Nat := (List.range 9).map fun t => nF s (3 + t)
theorem numsS_eq (s : Sta) : numsS s = [nF s 3, nF s 4, nF s 5, nF s 6, nF s 7, nF s 8, nF s 9, nF s 10, nF s 11] := rfl
theorem numsS_get (s : Sta) {j : Nat} (h : j < 9) : (u32s (numsS s))[j]? = some (.int .u32 ((nF s (3 + j) : Nat) : Int)) := by
  unfold u32s numsS
  rw [List.getElem?_map, List.getElem?_map, List.getElem?_range h]
  rfl
theorem bP3 (s : Sta) : [] ++ s.prev ++ s.led ++ s.draw = bP s 3 := by simp [bP, fB, isH, hF]
theorem bP17 (s : Sta) : bP s 12 ++ datB s.now = bP s 17 := by
  have h : ∀ i, bP s (i + 1) = bP s i ++ fB s i := fun i => rfl
  rw [h 16, h 15, h 14, h 13, h 12]
  simp [fB, isH, hF, nF, datB]
theorem bP22 (s : Sta) : bP s 17 ++ datB s.next = staB s := by
  have h : ∀ i, bP s (i + 1) = bP s i ++ fB s i := fun i => rfl
  unfold staB
  rw [h 21, h 20, h 19, h 18, h 17]
  simp [fB, isH, hF, nF, datB]
theorem nine32 (n0 n1 n2 n3 n4 n5 n6 n7 n8 : Int) (w : World) : (Instr.buildSlice 98 9 #[(0, .int .u32 n0), (1, .int .u32 n1), (2, .int .u32 n2), (3, .int .u32 n3), (4, .int .u32 n4), (5, .int .u32 n5), (6, .int .u32 n6), (7, .int .u32 n7), (8, .int .u32 n8)]).run Tryz.prog w = .ok (.slice (some ⟨w.heap.size, 0, none⟩) 9 9) (w.alloc (.cells #[.int .u32 n0, .int .u32 n1, .int .u32 n2, .int .u32 n3, .int .u32 n4, .int .u32 n5, .int .u32 n6, .int .u32 n7, .int .u32 n8] 33)) := by kernel_rfl
section
variable {ops : Array Oper} {rest : List Oper} {o : Oper} {a : Act} {w : World} {Q : Exit → Act → World → Prop}
theorem arm_build32 (hgd : o.guard = none) (n : Nat) (parts : Array (Nat × Operand)) (ho : o.op = .buildSlice 98 n parts) (vs : List Value) (pv : Array (Nat × Value)) (hpv : (parts.map fun (i, x) => (i, a.eval x)) = pv)
    (hr : ∀ w : World, (Instr.buildSlice 98 n pv).run Tryz.prog w = .ok (.slice (some ⟨w.heap.size, 0, none⟩) n n) (w.alloc (.cells vs.toArray 33)))
    (h : ∀ b w2, Hid (b = w.heap.size) → Row w2 b 33 vs → New w w2 → wpList Tryz.prog ops Q rest (a.put o.dst (.slice (some ⟨b, 0, none⟩) n n)) w2) : wpList Tryz.prog ops Q (o :: rest) a w := by
  refine wpList_plain hgd fun K hK => ?_
  unfold Oper.wp execOp
  simp only [ho, hpv, Sem.run_bind, hr w, Result.andThen_ok, Sem.run_pure]
  exact hK _ _ (h _ _ rfl (heap_alloc_new _ _) (new_alloc _ _))
end
/-- What holds while the numbers are laid. -/
structure LbRel (w : World) (S N base : Nat) (s : Sta) (i v : Value) (wr : World) : Prop where
  ex : ∃ j : Nat, j ≤ 9 ∧ i = .int .i64 j ∧ ∃ p cap, v = .slice p (96 + 4 * j) cap ∧ Bt.Own wr base p cap (bP s (3 + j))
  nums : Row wr N 33 (u32s (numsS s))
  sta : Row wr S 55 (scs s)
  bel : Below w.heap.size w wr
  low : base ≤ wr.heap.size
set_option maxHeartbeats 4000000 in
set_option maxRecDepth 100000 in
theorem rbytes_any (s : Sta) (w : World) (ok : s.Ok) : Calls Tryz.prog 24 #[.agg (scs s).toArray] w (SPost w 396 (staB s)) := by
  have OK := Lib.hid ok
  have CN := Lib.hid (fun n w0 h => rnum_any n w0 h)
  have CD1 := Lib.hid (fun w0 => rdata_any s.now w0 ok.now)
  have CD2 := Lib.hid (fun w0 => rdata_any s.next w0 ok.next)
  have LD1 := Lib.hid (datB_len ok.now); have LD2 := Lib.hid (datB_len ok.next)
  have B17 := Lib.hid (bP17 s); have B22 := Lib.hid (bP22 s); have B3 := Lib.hid (bP3 s)
  have BL := Lib.hid (fun i => bP_len ok i)
  have NLT := Lib.hid (fun i => nF_lt ok i)
  obtain ⟨sb, hsb⟩ : ∃ sb, sb = staB s := ⟨_, rfl⟩
  obtain ⟨e1, he1⟩ : ∃ e1, e1 = datB s.now := ⟨_, rfl⟩
  obtain ⟨e2, he2⟩ : ∃ e2, e2 = datB s.next := ⟨_, rfl⟩
  rw [← hsb] at B22 ⊢
  rw [← he1] at B17 CD1 LD1
  rw [← he2] at B22 CD2 LD2
  clear ok hsb he1 he2
  go_enter Tryz.func24, Tryz.ntmps24
  go_wp2_with (first
    | ((with_reducible refine at_slot 1 ?_); (refine arm_box (o := ⟨some 1, _, _, _, _, _⟩) rfl _ _ rfl (scs s) rfl ?_); intro S w1 Se hw1 nw1)
    | ((with_reducible refine at_slot 6 ?_); (refine arm_buildSlice (o := ⟨some 6, _, _, _, _, _⟩) rfl 0 _ rfl [] #[] (by simp) bs0 ?_); intro b2 w2 hb2 hR2 nw2; have hX2 := hw1.old nw2.below)
    | ((with_reducible refine at_slot 8 ?_); (refine arm_sliceAll (o := ⟨some 8, _, _, _, _, _⟩) rfl _ _ rfl 32 5 (by kernel_rfl) (by kernel_rfl) S 0 rfl (by omega) ?_))
    | ((with_reducible refine at_slot 9 ?_); (refine arm_append (o := ⟨some 9, _, _, _, _, _⟩) rfl _ _ rfl w1.heap.size (some ⟨b2, 0, none⟩) 0 0 ([]) (by simp only [List.length_append, List.length_nil, OK.out.prev.len, OK.out.led.len, OK.out.draw.len]) rfl (own_new hR2 (by have := hb2.out; omega)) (some ⟨S, 0, none⟩) 32 32 s.prev rfl OK.out.prev.len.symm (fun e => by cases e) (fun _ => ⟨S, 0, rfl, (h_prev OK.out).range hX2⟩) (by simp only [List.length_append, List.length_nil, OK.out.prev.len, OK.out.led.len, OK.out.draw.len]; omega) (by have := nw2.size; omega) ?_); intro p3 c3 w3 hO3 hB3; have hX3 := (hX2).below hB3 (by have := hw1.lt; omega))
    | ((with_reducible refine at_slot 12 ?_); (refine arm_sliceAll (o := ⟨some 12, _, _, _, _, _⟩) rfl _ _ rfl 32 5 (by kernel_rfl) (by kernel_rfl) S 32 rfl (by omega) ?_))
    | ((with_reducible refine at_slot 13 ?_); (refine arm_append (o := ⟨some 13, _, _, _, _, _⟩) rfl _ _ rfl w1.heap.size (p3) 32 c3 ([] ++ s.prev) (by simp only [List.length_append, List.length_nil, OK.out.prev.len, OK.out.led.len, OK.out.draw.len]) rfl hO3 (some ⟨S, 32, none⟩) 32 32 s.led rfl OK.out.led.len.symm (fun e => by cases e) (fun _ => ⟨S, 32, rfl, (h_ledg OK.out).range hX3⟩) (by simp only [List.length_append, List.length_nil, OK.out.prev.len, OK.out.led.len, OK.out.draw.len]; omega) (by have := nw2.size; have := hB3.size; omega) ?_); intro p4 c4 w4 hO4 hB4; have hX4 := (hX3).below hB4 (by have := hw1.lt; omega))
    | ((with_reducible refine at_slot 16 ?_); (refine arm_sliceAll (o := ⟨some 16, _, _, _, _, _⟩) rfl _ _ rfl 32 5 (by kernel_rfl) (by kernel_rfl) S 64 rfl (by omega) ?_))
    | ((with_reducible refine at_slot 17 ?_); (refine arm_append (o := ⟨some 17, _, _, _, _, _⟩) rfl _ _ rfl w1.heap.size (p4) 64 c4 ([] ++ s.prev ++ s.led) (by simp only [List.length_append, List.length_nil, OK.out.prev.len, OK.out.led.len, OK.out.draw.len]) rfl hO4 (some ⟨S, 64, none⟩) 32 32 s.draw rfl OK.out.draw.len.symm (fun e => by cases e) (fun _ => ⟨S, 64, rfl, (h_drw OK.out).range hX4⟩) (by simp only [List.length_append, List.length_nil, OK.out.prev.len, OK.out.led.len, OK.out.draw.len]; omega) (by have := nw2.size; have := hB3.size; have := hB4.size; omega) ?_); intro p5 c5 w5 hO5 hB5; have hX5 := (hX4).below hB5 (by have := hw1.lt; omega); have x96 : w5.cell? ⟨S, 96, none⟩ = some (.int .u32 ((nF s 3 : Nat) : Int)) := hX5.cell (s_num OK.out (i := 3) (by omega) rfl).get; have x97 : w5.cell? ⟨S, 97, none⟩ = some (.int .u32 ((nF s 4 : Nat) : Int)) := hX5.cell (s_num OK.out (i := 4) (by omega) rfl).get; have x98 : w5.cell? ⟨S, 98, none⟩ = some (.int .u32 ((nF s 5 : Nat) : Int)) := hX5.cell (s_num OK.out (i := 5) (by omega) rfl).get; have x99 : w5.cell? ⟨S, 99, none⟩ = some (.int .u32 ((nF s 6 : Nat) : Int)) := hX5.cell (s_num OK.out (i := 6) (by omega) rfl).get; have x100 : w5.cell? ⟨S, 100, none⟩ = some (.int .u32 ((nF s 7 : Nat) : Int)) := hX5.cell (s_num OK.out (i := 7) (by omega) rfl).get; have x101 : w5.cell? ⟨S, 101, none⟩ = some (.int .u32 ((nF s 8 : Nat) : Int)) := hX5.cell (s_num OK.out (i := 8) (by omega) rfl).get; have x102 : w5.cell? ⟨S, 102, none⟩ = some (.int .u32 ((nF s 9 : Nat) : Int)) := hX5.cell (s_num OK.out (i := 9) (by omega) rfl).get; have x103 : w5.cell? ⟨S, 103, none⟩ = some (.int .u32 ((nF s 10 : Nat) : Int)) := hX5.cell (s_num OK.out (i := 10) (by omega) rfl).get; have x104 : w5.cell? ⟨S, 104, none⟩ = some (.int .u32 ((nF s 11 : Nat) : Int)) := hX5.cell (s_num OK.out (i := 11) (by omega) rfl).get)
    | ((with_reducible refine at_slot 51 ?_); (refine arm_build32 (o := ⟨some 51, _, _, _, _, _⟩) rfl 9 _ rfl [.int .u32 ((nF s 3 : Nat) : Int), .int .u32 ((nF s 4 : Nat) : Int), .int .u32 ((nF s 5 : Nat) : Int), .int .u32 ((nF s 6 : Nat) : Int), .int .u32 ((nF s 7 : Nat) : Int), .int .u32 ((nF s 8 : Nat) : Int), .int .u32 ((nF s 9 : Nat) : Int), .int .u32 ((nF s 10 : Nat) : Int), .int .u32 ((nF s 11 : Nat) : Int)] #[(0, .int .u32 ((nF s 3 : Nat) : Int)), (1, .int .u32 ((nF s 4 : Nat) : Int)), (2, .int .u32 ((nF s 5 : Nat) : Int)), (3, .int .u32 ((nF s 6 : Nat) : Int)), (4, .int .u32 ((nF s 7 : Nat) : Int)), (5, .int .u32 ((nF s 8 : Nat) : Int)), (6, .int .u32 ((nF s 9 : Nat) : Int)), (7, .int .u32 ((nF s 10 : Nat) : Int)), (8, .int .u32 ((nF s 11 : Nat) : Int))] (by simp [Act.eval]) (nine32 _ _ _ _ _ _ _ _ _) ?_); intro N w6 hN6 hR6 nw6))
  have z1 := nw1.size; have z2 := nw2.size; have eS := Se.out
  have zz3 := hB3.size; have zz4 := hB4.size; have zz5 := hB5.size
  have bel5 : Below w.heap.size w w5 := nw1.below.trans ((((nw2.below.mono (Nat.le_refl _)).trans hB3).trans hB4).trans hB5 |>.mono (by omega))
  have bel6 : Below w.heap.size w w6 := below_step bel5 bel5.size nw6.below
  have hsz : w1.heap.size ≤ w6.heap.size := by have := nw6.size; omega
  have hlo : w.heap.size ≤ w1.heap.size := by omega
  have hO6 : Bt.Own w6 w1.heap.size p5 c5 (bP s (3 + 0)) := by rw [show 3 + 0 = 3 from rfl, ← B3.out]; exact hO5.below nw6.below
  have hN : Row w6 N 33 (u32s (numsS s)) := hR6.congr (by rw [numsS_eq]; rfl)
  have l0 : LbRel w S N w1.heap.size s (.int .i64 0) (.slice p5 96 c5) w6 := ⟨⟨0, by omega, rfl, p5, c5, rfl, hO6⟩, hN, hX5.old nw6.below, bel6, hsz⟩
  obtain ⟨base, hbase⟩ : ∃ base, base = w1.heap.size := ⟨_, rfl⟩
  rw [← hbase] at l0 hlo
  clear nw2 hR2 hb2 hX2 hX3 hX4 hX5 hO3 hO4 hO5 hO6 hB3 hB4 hB5 z1 z2 zz3 zz4 zz5 eS hw1 nw1 Se bel5 bel6 hsz hN hN6 hR6 nw6 hbase x96 x97 x98 x99 x100 x101 x102 x103 x104
  go_loopw [5, 3] (fun i v wr => LbRel w S N base s i v wr) (fun i _ _ => 9 - (intOf i).toNat)
  case atStart => exact l0
  case round =>
    clear l0
    obtain ⟨⟨j, hj, rfl, p, cap, rfl, hO⟩, hN, hS, hbel, hlow⟩ := hrel
    by_cases hlt : j < 9
    · have ik : (j : Int) < 9 := by omega
      have HO := Lib.hid hO; have HN := Lib.hid hN; have HS := Lib.hid hS
      have hcell : wr.cell? ⟨N, 0 + j, none⟩ = some (.int .u32 ((nF s (3 + j) : Nat) : Int)) := by rw [Nat.zero_add]; exact hN.cell (numsS_get s hlt)
      have hv := NLT.out (3 + j)
      have hbl : (bP s (3 + j)).length = 96 + 4 * j := by rw [BL.out, boff_num hj]
      have hnx : bP s (3 + (j + 1)) = bP s (3 + j) ++ put (nF s (3 + j)) 4 := by rw [show 3 + (j + 1) = 3 + j + 1 from rfl, bP, fB_n (num_not hlt)]
      have CNJ := Lib.hid (fun w0 => CN.out (nF s (3 + j)) w0 hv)
      have HC := Lib.hid hcell; have HNX := Lib.hid hnx
      clear hO hN hS hcell hnx
      generalize nF s (3 + j) = v at hv CNJ HC HNX
      generalize bP s (3 + j) = bj at HO hbl HNX
      have HBL := Lib.hid hbl
      clear hbl
      go_wp2_with (first
        | ((with_reducible refine at_slot 61 ?_); (refine arm_want (.pointer (some ⟨N, 0 + j, none⟩)) 61 rfl (by kernel_rfl) (Rf.run_op_indexS _ _ _ rfl 33 (by kernel_rfl) (by kernel_rfl) N 0 9 9 rfl .i64 j rfl hlt) ?_))
        | ((with_reducible refine at_slot 62 ?_); (refine arm_want (.int .u32 (v : Int)) 62 rfl (by kernel_rfl) (run_op_load1 _ _ rfl _ Tryz.underlying33 rfl ⟨N, 0 + j, none⟩ rfl _ HC.out) ?_)))
      refine (CNJ.out wr).mono ?_
      rintro e wa ⟨⟨q, cq, rfl, hQ⟩, hBa⟩
      have hla : base ≤ wa.heap.size := Nat.le_trans hlow hBa.size
      go_wp2_with (first
        | ((with_reducible refine at_slot 64 ?_); (refine arm_append2 (o := ⟨some 64, _, _, _, _, _⟩) rfl _ _ rfl base p (96 + 4 * j) cap bj HBL.out.symm rfl (HO.out.below hBa) q 4 cq (put v 4) rfl (put_length 4 _).symm (own_hq hQ 4 (put_length 4 _).symm) hQ.bytes (by rw [HBL.out, put_length]; omega) hla ?_); intro p8 c8 wb hO8 hS8))
      have bab : Below w.heap.size wa wb := hS8.below (fun k e => by cases e) (fun k e => Nat.le_trans hlo (own_low HO.out k e)) (Nat.le_trans hlo hla)
      have hrow : ∀ {X : Nat} {t : TypeId} {cs : List Value}, Row wr X t cs → t ≠ 5 → Row wb X t cs := fun {X t cs} hx ht => (hx.old hBa).of_block (hS8.block X (hx.old hBa).lt (fun e => by cases e) (row_not_own (hx.old hBa) ht (HO.out.below hBa)))
      go_roundw
      case rel => exact ⟨⟨j + 1, by omega, by go_num, p8, c8, by congr 1, by rw [HNX.out]; exact hO8⟩, hrow HN.out (by decide), hrow HS.out (by decide), (below_step hbel hbel.size hBa).trans bab, Nat.le_trans hla hS8.size⟩
      case measure => simp [intOf]; omega
    · obtain rfl : j = 9 := by omega
      have hbl : (bP s 12).length = 132 := by rw [BL.out]; rfl
      have hb17 : (bP s 17).length = 264 := by rw [BL.out]; rfl
      have hO12 : Bt.Own wr base p cap (bP s 12) := hO
      obtain ⟨b12, h12⟩ : ∃ b12, b12 = bP s 12 := ⟨_, rfl⟩
      obtain ⟨b17, h17⟩ : ∃ b17, b17 = bP s 17 := ⟨_, rfl⟩
      rw [← h12] at hbl hO12 B17
      rw [← h17] at hb17 B17 B22
      have HO := Lib.hid hO12; have HS := Lib.hid hS; have HL := Lib.hid hbl; have H17 := Lib.hid hb17
      have HL2 : Hid (base ≤ wr.heap.size) := Lib.hid hlow
      clear hO hO12 hN hS hj hlt h12 h17 hbl hb17
      go_wp2_with fail
      refine wp_region_held (S := fun w' => Row w' S 55 (scs s)) (by kernel_rfl) ?_
      change wpAnyH _ _ _ _ _ _ _ _ wr.drew
      have hSz : Row wr.drew S 55 (scs s) := HS.out
      have hOz : Bt.Own wr.drew base p cap b12 := HO.out.below ((Below.refl _ _).drew)
      have bez : Below w.heap.size w wr.drew := hbel.trans ((Below.refl _ _).drew)
      have hlz : base ≤ wr.drew.heap.size := HL2.out
      generalize wr.drew = wz at hSz hOz bez hlz ⊢
      clear HS HO HL2 hbel hlow
      refine h_take 0 (.slice p 132 cap) rfl 65 rfl (by kernel_rfl) (by kernel_rfl) (by kernel_rfl) (by kernel_rfl) (fun _ _ _ h => h) (fun w' _ => by kernel_rfl) hSz ?_
      simp only [Act.put, List.setIfInBounds_toArray, List.set_cons_zero, List.set_cons_succ]
      refine h_take 1 (.pointer (some ⟨S, 105, none⟩)) rfl 66 rfl (by kernel_rfl) (by kernel_rfl) (by kernel_rfl) (by kernel_rfl) (fun _ _ _ h => h) (fun w' _ => by kernel_rfl) hSz ?_
      simp only [Act.put, List.setIfInBounds_toArray, List.set_cons_zero, List.set_cons_succ]
      refine h_take 2 (.pointer (some ⟨S, 105, none⟩)) rfl 67 rfl (by kernel_rfl) (by kernel_rfl) (by kernel_rfl) (by kernel_rfl) (fun _ _ _ h => h) (fun w' _ => by kernel_rfl) hSz ?_
      simp only [Act.put, List.setIfInBounds_toArray, List.set_cons_zero, List.set_cons_succ]
      refine h_take 3 (.agg (dcs s.now).toArray) rfl 68 rfl (by kernel_rfl) (by kernel_rfl) (by kernel_rfl) (by kernel_rfl) (fun _ _ _ h => h) (fun w' hw => run_op_load _ _ rfl S 105 rfl (dcs s.now) (((s_eps OK.out).left).range hw) (sz_rdat OK.out.now)) hSz ?_
      simp only [Act.put, List.setIfInBounds_toArray, List.set_cons_zero, List.set_cons_succ]
      refine h_take 6 (.pointer (some ⟨S, 105, none⟩)) rfl 71 rfl (by kernel_rfl) (by kernel_rfl) (by kernel_rfl) (by kernel_rfl) (fun _ _ _ h => h) (fun w' _ => by kernel_rfl) hSz ?_
      simp only [Act.put, List.setIfInBounds_toArray, List.set_cons_zero, List.set_cons_succ]
      refine h_take 7 (.pointer (some ⟨S, 234, none⟩)) rfl 72 rfl (by kernel_rfl) (by kernel_rfl) (by kernel_rfl) (by kernel_rfl) (fun _ _ _ h => h) (fun w' _ => by kernel_rfl) hSz ?_
      simp only [Act.put, List.setIfInBounds_toArray, List.set_cons_zero, List.set_cons_succ]
      refine h_take 8 (.agg (dcs s.next).toArray) rfl 73 rfl (by kernel_rfl) (by kernel_rfl) (by kernel_rfl) (by kernel_rfl) (fun _ _ _ h => h) (fun w' hw => run_op_load _ _ rfl S 234 rfl (dcs s.next) (((s_eps OK.out).right 129 (dcs_len OK.out.now)).range hw) (sz_rdat OK.out.next)) hSz ?_
      simp only [Act.put, List.setIfInBounds_toArray, List.set_cons_zero, List.set_cons_succ]
      refine h_one (i := 4) (by kernel_rfl) (o_call rfl 69 rfl (by kernel_rfl) (run_op_call 36 _ _ rfl #[.agg (dcs s.now).toArray] (by simp only [List.map_toArray, List.map_cons, List.map_nil]; rfl) Tryz.func36 (by kernel_rfl) (by kernel_rfl) _) (CD1.out wz) ?_)
      rintro e wa ⟨⟨q1, cq1, rfl, hQwa⟩, hBwa⟩
      have hSa := hSz.old hBwa
      have bela : Below w.heap.size w wa := below_step bez bez.size hBwa
      have hOa := hOz.below hBwa
      have hla : base ≤ wa.heap.size := Nat.le_trans hlz hBwa.size
      refine ⟨_, rfl, hSa, ?_⟩
      simp only [Act.put, List.setIfInBounds_toArray, List.set_cons_zero, List.set_cons_succ]
      have hl1 := HL.out; have hl2 := LD1.out; have hl3 := H17.out; have hl4 := LD2.out
      refine h_one (i := 5) (by kernel_rfl) (o_append rfl 70 rfl (by kernel_rfl) _ _ rfl base p 132 cap b12 HL.out.symm rfl hOa q1 132 cq1 e1 rfl LD1.out.symm (own_hq hQwa 132 LD1.out.symm) hQwa.bytes (by omega) hla ?_)
      intro p7 c7 wb hOwb hSwb
      have bwb : Below w.heap.size wa wb := hSwb.below (fun k e => by cases e) (fun k e => Nat.le_trans hlo (own_low hOa k e)) (Nat.le_trans hlo hla)
      have hSb : Row wb S 55 (scs s) := hSa.of_block (hSwb.block S hSa.lt (fun e => by cases e) (row_not_own hSa (by decide) hOa))
      have belb := bela.trans bwb
      have hlb := Nat.le_trans hla hSwb.size
      refine ⟨hSb, ?_⟩
      simp only [Act.put, List.setIfInBounds_toArray, List.set_cons_zero, List.set_cons_succ]
      rw [B17.out] at hOwb
      refine h_one (i := 9) (by kernel_rfl) (o_call rfl 74 rfl (by kernel_rfl) (run_op_call 36 _ _ rfl #[.agg (dcs s.next).toArray] (by simp only [List.map_toArray, List.map_cons, List.map_nil]; rfl) Tryz.func36 (by kernel_rfl) (by kernel_rfl) _) (CD2.out wb) ?_)
      rintro e wc ⟨⟨q2, cq2, rfl, hQwc⟩, hBwc⟩
      have hSc := hSb.old hBwc
      have belc : Below w.heap.size w wc := below_step belb belb.size hBwc
      have hOc := hOwb.below hBwc
      have hlc : base ≤ wc.heap.size := Nat.le_trans hlb hBwc.size
      refine ⟨_, rfl, hSc, ?_⟩
      simp only [Act.put, List.setIfInBounds_toArray, List.set_cons_zero, List.set_cons_succ]
      refine h_one (i := 10) (by kernel_rfl) (o_append rfl 75 rfl (by kernel_rfl) _ _ rfl base p7 264 c7 b17 H17.out.symm rfl hOc q2 132 cq2 e2 rfl LD2.out.symm (own_hq hQwc 132 LD2.out.symm) hQwc.bytes (by omega) hlc ?_)
      intro p9 c9 wd hOwd hSwd
      have bwd : Below w.heap.size wc wd := hSwd.below (fun k e => by cases e) (fun k e => Nat.le_trans hlo (own_low hOc k e)) (Nat.le_trans hlo hlc)
      have hSd : Row wd S 55 (scs s) := hSc.of_block (hSwd.block S hSc.lt (fun e => by cases e) (row_not_own hSc (by decide) hOc))
      have beld := belc.trans bwd
      have hld := Nat.le_trans hlc hSwd.size
      refine ⟨hSd, ?_⟩
      simp only [Act.put, List.setIfInBounds_toArray, List.set_cons_zero, List.set_cons_succ]
      refine h_take 11 (.slice p9 396 c9) rfl 2 rfl (by kernel_rfl) (by kernel_rfl) (by kernel_rfl) (by kernel_rfl) (fun _ _ _ h => h) (fun w' _ => by kernel_rfl) hSd ?_
      simp only [Act.put, List.setIfInBounds_toArray, List.set_cons_zero, List.set_cons_succ]
      rw [B22.out] at hOwd
      refine wpAnyH_done (by kernel_rfl) ?_ _
      go_wp2_with fail
      go_ret
      exact ⟨⟨p9, c9, rfl, own_mono hOwd hlo⟩, beld⟩
end Go.Proofs.YtnjmocobncncdaaGreatDoor.Sa
