/-
  The walk of layer 4's statement WireParts over this seat's translation, out of the contracts: it returns true, and changes nothing that was there.
-/
import Derived.Test.YticdapgfjkhoaaaWireLaws
namespace Go.Proofs.Yticdapgfjkhoaaa.Wi
open Go.ChangeShapes Go.WideShapes Go.ChangeAt Go.RowKit Go.Proofs.Yticdapgfjkhoaaa.Mem Go.Proofs.Yticdapgfjkhoaaa.Bt Go.Proofs.Yticdapgfjkhoaaa.Tg
set_option linter.unusedVariables false
set_option linter.unusedSimpArgs false

/-- Three writers, and a slice, each in memory of its own. -/
structure Trio (w : World) (base A B C : Nat) (pa : Option Addr) (ca : Nat) (la : List Nat) (pb : Option Addr) (cb : Nat) (bs : List Nat) (pc : Option Addr) (cc : Nat) (cs : List Nat) (q : Option Addr) (qc : Nat) (qs : List Nat) : Prop where
  a : Wr w base A pa ca la
  b : Wr w base B pb cb bs
  c : Wr w base C pc cc cs
  own : Own w base q qc qs
  ab : Sep pa pb
  ac : Sep pa pc
  bc : Sep pb pc
  aq : Sep pa q
  bq : Sep pb q
  cq : Sep pc q
  nab : A ≠ B
  nac : A ≠ C
  nbc : B ≠ C
section
variable {w w' : World} {base A B C : Nat} {pa pa' : Option Addr} {ca ca' : Nat} {la la' : List Nat} {pb : Option Addr} {cb : Nat} {bs : List Nat} {pc pc' : Option Addr} {cc cc' : Nat} {cs cs' : List Nat} {q : Option Addr} {qc : Nat} {qs : List Nat}
theorem Trio.old (h : Trio w base A B C pa ca la pb cb bs pc cc cs q qc qs) (hb : Below w.heap.size w w') : Trio w' base A B C pa ca la pb cb bs pc cc cs q qc qs :=
  ⟨h.a.old hb, h.b.old hb, h.c.old hb, h.own.below hb, h.ab, h.ac, h.bc, h.aq, h.bq, h.cq, h.nab, h.nac, h.nbc⟩
theorem Trio.stepA (h : Trio w base A B C pa ca la pb cb bs pc cc cs q qc qs) (ha : Wr w' base A pa' ca' la') (hs : Step (some A) pa pa' w w') : Trio w' base A B C pa' ca' la' pb cb bs pc cc cs q qc qs :=
  ⟨ha, h.b.other h.a hs (Ne.symm h.nab) h.ab, h.c.other h.a hs (Ne.symm h.nac) h.ac, own_step h.own hs h.aq (fun k hk => by rw [← Option.some.inj hk]; exact row_not_own h.a.row (by decide) h.own),
    h.ab.next hs h.b.own, h.ac.next hs h.c.own, h.bc, h.aq.next hs h.own, h.bq, h.cq, h.nab, h.nac, h.nbc⟩
theorem Trio.stepC (h : Trio w base A B C pa ca la pb cb bs pc cc cs q qc qs) (hc : Wr w' base C pc' cc' cs') (hs : Step (some C) pc pc' w w') : Trio w' base A B C pa ca la pb cb bs pc' cc' cs' q qc qs :=
  ⟨h.a.other h.c hs h.nac h.ac.symm, h.b.other h.c hs h.nbc h.bc.symm, hc, own_step h.own hs h.cq (fun k hk => by rw [← Option.some.inj hk]; exact row_not_own h.c.row (by decide) h.own),
    h.ab, (h.ac.symm.next hs h.a.own).symm, (h.bc.symm.next hs h.b.own).symm, h.aq, h.bq, h.cq.next hs h.own, h.nab, h.nac, h.nbc⟩
/-- The first two writers change their names. -/
theorem Trio.turn (h : Trio w base A B C pa ca la pb cb bs pc cc cs q qc qs) : Trio w base B A C pb cb bs pa ca la pc cc cs q qc qs :=
  ⟨h.b, h.a, h.c, h.own, h.ab.symm, h.bc, h.ac, h.bq, h.aq, h.cq, Ne.symm h.nab, h.nbc, h.nac⟩
theorem row_step {X : Nat} {t : TypeId} {xs : List Value} (hx : Row w X t xs) (ha : Wr w base A pa ca la) (hs : Step (some A) pa pa' w w') (hne : X ≠ A) (ht : t ≠ 5 := by decide) : Row w' X t xs :=
  hx.of_block (hs.block X hx.lt (fun e => hne (Option.some.inj e).symm) (row_not_own hx ht ha.own))
end
theorem same_at (xs ys : List Nat) (p q : Option Addr) (c d m n : Nat) (hm : m = xs.length) (hn : n = ys.length) (w : World) (hp : Rd w p xs) (hq : Rd w q ys) (hx : xs.length ≤ 1000000) (hy : ys.length ≤ 1000000) :
    Calls Try.prog 12 #[.slice p m c, .slice q n d] w fun e w' => e = .returned (.bool (decide (xs = ys))) ∧ Below w.heap.size w w' := by
  subst hm hn
  exact same_any xs ys p q c d w hp hq hx hy
theorem rNew_at (bs : List Nat) (p : Option Addr) (cap n : Nat) (hn : n = bs.length) (w : World) (h : Rd w p bs) (hnil : p = none → bs.length = 0 ∧ cap = 0) (hl : bs.length ≤ 1000000) (hlt : AllLt 256 bs) :
    Calls Try.prog 14 #[.slice p n cap] w (NewPost w bs) := by
  subst hn
  exact rNew_any bs p cap w h hnil hl hlt
/-- A stop for the walk. -/
def Pause (p : Prop) : Prop := p
theorem pause {p : Prop} (h : Pause p) : p := h
theorem sep_none (p : Option Addr) : Sep p none := fun k _ e => by cases e
theorem sep_none' (p : Option Addr) : Sep none p := fun k e => by cases e
/-- What holds while things are written twice. -/
structure WpRel (w : World) (A B C : Nat) (l : List Thing) (ahead idle : List Nat) (q : Option Addr) (qc : Nat) (qs : List Nat) (i f : Value) (wr : World) : Prop where
  ex : ∃ k : Nat, k ≤ l.length ∧ i = .int .i64 k ∧ f = .bool true ∧ ∃ pa ca pb cb pc cc, Trio wr w.heap.size A B C pa ca (encs (l.take k)) pb cb idle pc cc (ahead ++ encs (l.take k)) q qc qs
  bel : Below w.heap.size w wr
/-- What holds while the first ones are read. -/
structure RpRel (w : World) (R d B : Nat) (l : List Thing) (bs : List Nat) (i : Value) (wr : World) : Prop where
  ex : ∃ k : Nat, k ≤ l.length ∧ i = .int .i64 k ∧ RdAt wr R d (encs (l.drop k) ++ bs, 0) ∧ ∃ p c, Wr wr w.heap.size B p c bs
  bel : Below w.heap.size w wr

set_option maxHeartbeats 4000000 in
set_option maxRecDepth 100000 in
theorem wireParts_any (l m : List Thing) (P Pm : Option Addr) (capL capM : Nat) (w : World) (hl : Things w P l) (hlm : Things w Pm m) (hm : l.length ≤ maxLen) (hmm : m.length ≤ maxLen) :
    Calls Try.prog 6 #[.slice P l.length capL, .slice Pm m.length capM] w fun e w' => e = .returned (.bool true) ∧ Below w.heap.size w w' := by
  have HLl := Lib.hid hl; have HLm := Lib.hid hlm; have HM := Lib.hid hm; have HMM := Lib.hid hmm
  clear hl hlm hm hmm
  go_enter Try.func6, Try.ntmps6
  go_wp2_with fail
  refine (awake_any w).mono ?_
  rintro e w1 ⟨rfl, h1⟩
  go_wp2_with fail
  refine (large_any l P capL w1 (HLl.out.below h1) HM.out).mono ?_
  rintro e w2 ⟨⟨big, rfl, hbig⟩, hB2⟩
  have bel2 : Below w.heap.size w w2 := below_step h1 h1.size hB2
  clear hB2 h1
  cases big with
  | true =>
    go_wp2_with fail
    go_ret
    exact ⟨rfl, bel2⟩
  | false =>
    have HBl := Lib.hid (hbig rfl)
    have hn100 := (hbig rfl).1
    clear hbig
    go_wp2_with fail
    refine (large_any m Pm capM w2 (HLm.out.below bel2) HMM.out).mono ?_
    rintro e w3 ⟨⟨big, rfl, hbig⟩, hB3⟩
    have bel3 : Below w.heap.size w w3 := below_step bel2 bel2.size hB3
    clear hB3 bel2
    cases big with
    | true =>
      go_wp2_with fail
      go_ret
      exact ⟨rfl, bel3⟩
    | false =>
      have HBm := Lib.hid (hbig rfl)
      have hm100 := (hbig rfl).1
      clear hbig
      go_wp2_with (first
        | ((with_reducible refine at_slot 30 ?_); (refine arm_build (o := ⟨some 30, _, _, _, _, _⟩) rfl _ _ rfl [.slice none 0 0] built_wr ?_))
        | ((with_reducible refine at_slot 31 ?_); (refine arm_box (o := ⟨some 31, _, _, _, _, _⟩) rfl _ _ rfl [.slice none 0 0] rfl ?_); intro A w4 hA hR4 hN4)
        | ((with_reducible refine at_slot 32 ?_); (refine arm_build (o := ⟨some 32, _, _, _, _, _⟩) rfl _ _ rfl [.slice none 0 0] built_wr ?_))
        | ((with_reducible refine at_slot 33 ?_); (refine arm_box (o := ⟨some 33, _, _, _, _, _⟩) rfl _ _ rfl [.slice none 0 0] rfl ?_); intro B w5 hB hR5 hN5)
        | ((with_reducible refine at_slot 34 ?_); (refine arm_build (o := ⟨some 34, _, _, _, _, _⟩) rfl _ _ rfl [.slice none 0 0] built_wr ?_))
        | ((with_reducible refine at_slot 35 ?_); (refine arm_box (o := ⟨some 35, _, _, _, _, _⟩) rfl _ _ rfl [.slice none 0 0] rfl ?_); intro C w6 hC hR6 hN6))
      have eA := hA.out; have eB := hB.out; have eC := hC.out
      have s4 := hN4.size; have s5 := hN5.size; have s6 := hN6.size; have s3 := bel3.size
      have bel6 : Below w.heap.size w w6 := below_step (below_step (below_step bel3 s3 hN4.below) (by omega) hN5.below) (by omega) hN6.below
      have h0 : WpRel w A B C l [] [] none 0 [] (.int .i64 0) (.bool true) w6 := ⟨⟨0, by omega, rfl, rfl, none, 0, none, 0, none, 0, ⟨wr_new ((hR4.old hN5.below).old hN6.below) (by omega), wr_new (hR5.old hN6.below) (by omega), wr_new hR6 (by omega), own_nil _ _, sep_none _, sep_none _, sep_none _, sep_none _, sep_none _, sep_none _, by omega, by omega, by omega⟩⟩, bel6⟩
      have lC : w.heap.size ≤ C := by omega
      clear eA eB eC s4 s5 s6 s3 hA hB hC hR4 hR5 hR6 hN4 hN5 hN6 bel3 bel6
      go_loopw [38, 8] (fun i f wr => WpRel w A B C l [] [] none 0 [] i f wr) (fun i _ _ => l.length - (intOf i).toNat)
      case atStart => exact h0
      case round =>
        clear h0
        obtain ⟨⟨k, hk, rfl, rfl, pa, ca, pb, cb, pc, cc, hT⟩, hbel⟩ := hrel
        have hel : (encs (l.take k)).length ≤ 25600 := by
          have h1 := encs_len (l.take k) (fun x hx => (HLl.out.mem x (List.mem_of_mem_take hx)).h_)
          rw [List.length_take] at h1; omega
        rw [List.nil_append] at hT
        by_cases hlt : k < l.length
        · obtain ⟨g, o, rfl, hg, hrows⟩ := HLl.out.at_ (by omega)
          obtain ⟨hrg, hok⟩ := hrows k hlt
          have hrw := range_block hrg (hbel.block g hg)
          clear hrows hrg
          have hxb : (l.getD k default).b.length ≤ 300 := HBl.out.2 _ (getD_mem l k hlt)
          obtain ⟨x, hx⟩ : ∃ x, x = l.getD k default := ⟨_, rfl⟩
          rw [← hx] at hrw hok hxb
          have HX := Lib.hid hx; clear hx
          have HTL := Lib.hid (tcells_len hok.h_)
          have HT1 := Lib.hid (tcells_one x)
          obtain ⟨tc, htc⟩ : ∃ tc, tc = tcells x := ⟨_, rfl⟩
          have HTC := Lib.hid htc
          rw [← htc] at hrw HTL HT1
          have HOK := Lib.hid hok; clear htc hok
          have ik : (k : Int) < (l.length : Int) := by omega
          go_wp2_with (first
            | ((with_reducible refine at_slot 40 ?_); (refine arm_indexN (o := ⟨some 40, _, _, _, _, _⟩) rfl _ _ _ rfl 33 36 (by kernel_rfl) (by kernel_rfl) g o _ _ rfl .i64 k rfl hlt ?_))
            | ((with_reducible refine at_slot 41 ?_); (refine arm_load (o := ⟨some 41, _, _, _, _, _⟩) rfl _ _ rfl g (o + k * 36) rfl tc hrw (by rw [HTL.out]; exact sz_thing) ?_))
            | ((with_reducible refine at_slot 10 ?_); (refine arm_alloc (o := ⟨some 10, _, _, _, _, _⟩) rfl _ rfl zcells z_thing ?_); intro X w4 hXe hR4 hN4)
            | ((with_reducible refine arm_store (o := ⟨none, _, _, _, _, _⟩) rfl _ _ _ rfl X 0 rfl tc rfl _ _ hR4 (by rw [HTL.out, zcells_len]; omega) HT1.out (by rw [HTL.out]; exact sz_thing) ?_); intro w5 hR5 hO5 hS5; have hX5 := hR5.congr (lay_all _ _ (by rw [HTL.out, zcells_len]))))
          have eX := hXe.out
          have bel5 : Below wr.heap.size wr w5 := below_only hN4.below hO5 (by omega) hN4.below.size
          have belz : Below wr.heap.size wr w5.drew := bel5.trans ((Below.refl _ _).drew)
          have bel0z : Below w.heap.size w w5.drew := below_step hbel hbel.size belz
          have hXz : Row w5.drew X 33 tc := hX5
          have hTz := hT.old belz
          have HXn : Hid (X ≠ A ∧ X ≠ C) := Lib.hid ⟨by have := hT.a.lt; omega, by have := hT.c.lt; omega⟩
          clear eX hXe hR4 hN4 hR5 hO5 hS5 hX5 hrw bel5 belz hT hbel
          refine wp_region_held (S := fun w' => Row w' X 33 tc) (by kernel_rfl) ?_
          change wpAnyH _ _ _ _ _ _ _ _ w5.drew
          generalize w5.drew = wz at bel0z hXz hTz ⊢
          refine h_take 0 (.pointer (some ⟨A, 0, none⟩)) rfl 42 rfl (by kernel_rfl) (by kernel_rfl) (by kernel_rfl) (by kernel_rfl) (fun _ _ _ h => h) (fun w' _ => by kernel_rfl) hXz ?_
          simp only [Act.put, List.setIfInBounds_toArray, List.set_cons_zero, List.set_cons_succ]
          refine h_take 1 (.agg tc.toArray) rfl 43 rfl (by kernel_rfl) (by kernel_rfl) (by kernel_rfl) (by kernel_rfl) (fun _ _ _ h => h) (fun w' hC => run_op_load _ _ rfl X 0 rfl tc (hC.range 0 _ (fun j v hj => by rw [Nat.zero_add]; exact hj)) (by rw [HTL.out]; exact sz_thing)) hXz ?_
          simp only [Act.put, List.setIfInBounds_toArray, List.set_cons_zero, List.set_cons_succ]
          refine h_take 3 (.pointer (some ⟨C, 0, none⟩)) rfl 45 rfl (by kernel_rfl) (by kernel_rfl) (by kernel_rfl) (by kernel_rfl) (fun _ _ _ h => h) (fun w' _ => by kernel_rfl) hXz ?_
          simp only [Act.put, List.setIfInBounds_toArray, List.set_cons_zero, List.set_cons_succ]
          refine h_take 4 (.agg tc.toArray) rfl 46 rfl (by kernel_rfl) (by kernel_rfl) (by kernel_rfl) (by kernel_rfl) (fun _ _ _ h => h) (fun w' hC => run_op_load _ _ rfl X 0 rfl tc (hC.range 0 _ (fun j v hj => by rw [Nat.zero_add]; exact hj)) (by rw [HTL.out]; exact sz_thing)) hXz ?_
          simp only [Act.put, List.setIfInBounds_toArray, List.set_cons_zero, List.set_cons_succ]
          have hcall := write_any x w.heap.size A pa ca _ wz hTz.a bel0z.size (by omega) (HOK.out.below bel0z) (sep_old HOK.out hTz.a.own)
          rw [← HTC.out] at hcall
          refine h_one (i := 2) (by kernel_rfl) (o_call rfl 44 rfl (by kernel_rfl) (run_op_call 9 _ _ rfl #[.pointer (some ⟨A, 0, none⟩), .agg tc.toArray] (by simp only [List.map_toArray, List.map_cons, List.map_nil]; rfl) Try.func9 (by kernel_rfl) (by kernel_rfl) wz) hcall ?_)
          clear hcall
          rintro e y1 ⟨rfl, p1, c1, hW1, hS1⟩
          have hX1 := row_step hXz hTz.a hS1 HXn.out.1
          have hT1 := hTz.stepA hW1 hS1
          have bel1 : Below w.heap.size w y1 := bel0z.trans (hTz.a.below hS1 bel0z.size)
          refine ⟨_, rfl, hX1, ?_⟩
          simp only [Act.put, List.setIfInBounds_toArray, List.set_cons_zero, List.set_cons_succ]
          clear hXz hTz hW1 hS1 bel0z
          have hcall := write_any x w.heap.size C pc cc _ y1 hT1.c bel1.size (by first | omega | (rw [List.length_append]; omega)) (HOK.out.below bel1) (sep_old HOK.out hT1.c.own)
          rw [← HTC.out] at hcall
          refine h_one (i := 5) (by kernel_rfl) (o_call rfl 47 rfl (by kernel_rfl) (run_op_call 9 _ _ rfl #[.pointer (some ⟨C, 0, none⟩), .agg tc.toArray] (by simp only [List.map_toArray, List.map_cons, List.map_nil]; rfl) Try.func9 (by kernel_rfl) (by kernel_rfl) y1) hcall ?_)
          clear hcall
          rintro e y2 ⟨rfl, p2, c2, hW2, hS2⟩
          have hX2 := row_step hX1 hT1.c hS2 HXn.out.2
          have hT2 := hT1.stepC hW2 hS2
          have bel2 : Below w.heap.size w y2 := bel1.trans (hT1.c.below hS2 bel1.size)
          refine ⟨_, rfl, hX2, ?_⟩
          simp only [Act.put, List.setIfInBounds_toArray, List.set_cons_zero, List.set_cons_succ]
          clear hX1 hT1 hW2 hS2 bel1
          refine h_take 6 (.bool (okT x)) rfl 11 rfl (by kernel_rfl) (by kernel_rfl) (by kernel_rfl) (by kernel_rfl) (fun _ _ _ h => h) (fun w' _ => by kernel_rfl) hX2 ?_
          simp only [Act.put, List.setIfInBounds_toArray, List.set_cons_zero, List.set_cons_succ]
          refine h_take 7 (.bool (okT x)) rfl 12 rfl (by kernel_rfl) (by kernel_rfl) (by kernel_rfl) (by kernel_rfl) (fun _ _ _ h => h) (fun w' _ => by kernel_rfl) hX2 ?_
          simp only [Act.put, List.setIfInBounds_toArray, List.set_cons_zero, List.set_cons_succ]
          refine wpAnyH_done (by kernel_rfl) ?_ _
          clear hX2
          have hbb : (okT x == okT x) = true := by simp
          go_wp2_with fail
          go_roundw
          case rel => exact ⟨⟨k + 1, by omega, by go_num, rfl, p1, c1, pb, cb, p2, c2, by rw [List.nil_append, encs_take l k hlt, ← HX.out]; exact hT2⟩, bel2⟩
          case measure => simp [intOf]; omega
        · obtain rfl : k = l.length := by omega
          rw [List.take_length] at hT hel
          go_wp2_with fail
          refine (wBytes_any w.heap.size C pc cc (encs l) wr hT.c (by omega)).mono ?_
          rintro e w7 ⟨⟨q, qc, rfl, hO7⟩, hB7⟩
          have bel7 : Below w.heap.size w w7 := below_step hbel hbel.size hB7
          have hT7 := hT.old hB7
          have hqa : Sep pa q := fun j hj e => by have h1 := (own_blk hT.a.own hj).2.1; have h2 := own_low hO7 j e; omega
          have hqb : Sep pb q := fun j hj e => by have h1 := (own_blk hT.b.own hj).2.1; have h2 := own_low hO7 j e; omega
          have hqc : Sep pc q := fun j hj e => by have h1 := (own_blk hT.c.own hj).2.1; have h2 := own_low hO7 j e; omega
          have hOq : Own w7 w.heap.size q qc (encs l) := own_mono hO7 hbel.size
          have h0 : WpRel w B A C m (encs l) (encs l) q qc (encs l) (.int .i64 0) (.bool true) w7 := ⟨⟨0, by omega, rfl, rfl, pb, cb, pa, ca, pc, cc, by rw [List.take_zero, show encs [] = [] from rfl, List.append_nil]; exact ⟨hT7.b, hT7.a, hT7.c, hOq, hT7.ab.symm, hT7.bc, hT7.ac, hqb, hqa, hqc, Ne.symm hT7.nab, hT7.nbc, hT7.nac⟩⟩, bel7⟩
          clear hB7 hT hbel hO7 hk hlt hT7 hqa hqb hqc hOq bel7
          go_wp2_with fail
          go_loopw [59, 8] (fun i f wr => WpRel w B A C m (encs l) (encs l) q qc (encs l) i f wr) (fun i _ _ => m.length - (intOf i).toNat)
          case atStart => exact h0
          case round =>
            clear h0
            obtain ⟨⟨k, hk, rfl, rfl, pa, ca, pb, cb, pc, cc, hT⟩, hbel⟩ := hrel
            have hem : (encs (m.take k)).length ≤ 25600 := by
              have h1 := encs_len (m.take k) (fun x hx => (HLm.out.mem x (List.mem_of_mem_take hx)).h_)
              rw [List.length_take] at h1; omega
            by_cases hlt : k < m.length
            · obtain ⟨g, o, rfl, hg, hrows⟩ := HLm.out.at_ (by omega)
              obtain ⟨hrg, hok⟩ := hrows k hlt
              have hrw := range_block hrg (hbel.block g hg)
              clear hrows hrg
              have hxb : (m.getD k default).b.length ≤ 300 := HBm.out.2 _ (getD_mem m k hlt)
              obtain ⟨x, hx⟩ : ∃ x, x = m.getD k default := ⟨_, rfl⟩
              rw [← hx] at hrw hok hxb
              have HX := Lib.hid hx; clear hx
              have HTL := Lib.hid (tcells_len hok.h_)
              have HT1 := Lib.hid (tcells_one x)
              obtain ⟨tc, htc⟩ : ∃ tc, tc = tcells x := ⟨_, rfl⟩
              have HTC := Lib.hid htc
              rw [← htc] at hrw HTL HT1
              have HOK := Lib.hid hok; clear htc hok
              have ik : (k : Int) < (m.length : Int) := by omega
              go_wp2_with (first
                | ((with_reducible refine at_slot 61 ?_); (refine arm_indexN (o := ⟨some 61, _, _, _, _, _⟩) rfl _ _ _ rfl 33 36 (by kernel_rfl) (by kernel_rfl) g o _ _ rfl .i64 k rfl hlt ?_))
                | ((with_reducible refine at_slot 62 ?_); (refine arm_load (o := ⟨some 62, _, _, _, _, _⟩) rfl _ _ rfl g (o + k * 36) rfl tc hrw (by rw [HTL.out]; exact sz_thing) ?_))
                | ((with_reducible refine at_slot 15 ?_); (refine arm_alloc (o := ⟨some 15, _, _, _, _, _⟩) rfl _ rfl zcells z_thing ?_); intro X w4 hXe hR4 hN4)
                | ((with_reducible refine arm_store (o := ⟨none, _, _, _, _, _⟩) rfl _ _ _ rfl X 0 rfl tc rfl _ _ hR4 (by rw [HTL.out, zcells_len]; omega) HT1.out (by rw [HTL.out]; exact sz_thing) ?_); intro w5 hR5 hO5 hS5; have hX5 := hR5.congr (lay_all _ _ (by rw [HTL.out, zcells_len]))))
              have eX := hXe.out
              have bel5 : Below wr.heap.size wr w5 := below_only hN4.below hO5 (by omega) hN4.below.size
              have belz : Below wr.heap.size wr w5.drew := bel5.trans ((Below.refl _ _).drew)
              have bel0z : Below w.heap.size w w5.drew := below_step hbel hbel.size belz
              have hXz : Row w5.drew X 33 tc := hX5
              have hTz := hT.old belz
              have HXn : Hid (X ≠ B ∧ X ≠ C) := Lib.hid ⟨by have := hT.a.lt; omega, by have := hT.c.lt; omega⟩
              clear eX hXe hR4 hN4 hR5 hO5 hS5 hX5 hrw bel5 belz hT hbel
              refine wp_region_held (S := fun w' => Row w' X 33 tc) (by kernel_rfl) ?_
              change wpAnyH _ _ _ _ _ _ _ _ w5.drew
              generalize w5.drew = wz at bel0z hXz hTz ⊢
              refine h_take 0 (.pointer (some ⟨B, 0, none⟩)) rfl 63 rfl (by kernel_rfl) (by kernel_rfl) (by kernel_rfl) (by kernel_rfl) (fun _ _ _ h => h) (fun w' _ => by kernel_rfl) hXz ?_
              simp only [Act.put, List.setIfInBounds_toArray, List.set_cons_zero, List.set_cons_succ]
              refine h_take 1 (.agg tc.toArray) rfl 64 rfl (by kernel_rfl) (by kernel_rfl) (by kernel_rfl) (by kernel_rfl) (fun _ _ _ h => h) (fun w' hC => run_op_load _ _ rfl X 0 rfl tc (hC.range 0 _ (fun j v hj => by rw [Nat.zero_add]; exact hj)) (by rw [HTL.out]; exact sz_thing)) hXz ?_
              simp only [Act.put, List.setIfInBounds_toArray, List.set_cons_zero, List.set_cons_succ]
              refine h_take 3 (.pointer (some ⟨C, 0, none⟩)) rfl 66 rfl (by kernel_rfl) (by kernel_rfl) (by kernel_rfl) (by kernel_rfl) (fun _ _ _ h => h) (fun w' _ => by kernel_rfl) hXz ?_
              simp only [Act.put, List.setIfInBounds_toArray, List.set_cons_zero, List.set_cons_succ]
              refine h_take 4 (.agg tc.toArray) rfl 67 rfl (by kernel_rfl) (by kernel_rfl) (by kernel_rfl) (by kernel_rfl) (fun _ _ _ h => h) (fun w' hC => run_op_load _ _ rfl X 0 rfl tc (hC.range 0 _ (fun j v hj => by rw [Nat.zero_add]; exact hj)) (by rw [HTL.out]; exact sz_thing)) hXz ?_
              simp only [Act.put, List.setIfInBounds_toArray, List.set_cons_zero, List.set_cons_succ]
              have hcall := write_any x w.heap.size B pa ca _ wz hTz.a bel0z.size (by omega) (HOK.out.below bel0z) (sep_old HOK.out hTz.a.own)
              rw [← HTC.out] at hcall
              refine h_one (i := 2) (by kernel_rfl) (o_call rfl 65 rfl (by kernel_rfl) (run_op_call 9 _ _ rfl #[.pointer (some ⟨B, 0, none⟩), .agg tc.toArray] (by simp only [List.map_toArray, List.map_cons, List.map_nil]; rfl) Try.func9 (by kernel_rfl) (by kernel_rfl) wz) hcall ?_)
              clear hcall
              rintro e y1 ⟨rfl, p1, c1, hW1, hS1⟩
              have hX1 := row_step hXz hTz.a hS1 HXn.out.1
              have hT1 := hTz.stepA hW1 hS1
              have bel1 : Below w.heap.size w y1 := bel0z.trans (hTz.a.below hS1 bel0z.size)
              refine ⟨_, rfl, hX1, ?_⟩
              simp only [Act.put, List.setIfInBounds_toArray, List.set_cons_zero, List.set_cons_succ]
              clear hXz hTz hW1 hS1 bel0z
              have hcall := write_any x w.heap.size C pc cc _ y1 hT1.c bel1.size (by first | omega | (rw [List.length_append]; omega)) (HOK.out.below bel1) (sep_old HOK.out hT1.c.own)
              rw [← HTC.out] at hcall
              refine h_one (i := 5) (by kernel_rfl) (o_call rfl 68 rfl (by kernel_rfl) (run_op_call 9 _ _ rfl #[.pointer (some ⟨C, 0, none⟩), .agg tc.toArray] (by simp only [List.map_toArray, List.map_cons, List.map_nil]; rfl) Try.func9 (by kernel_rfl) (by kernel_rfl) y1) hcall ?_)
              clear hcall
              rintro e y2 ⟨rfl, p2, c2, hW2, hS2⟩
              have hX2 := row_step hX1 hT1.c hS2 HXn.out.2
              have hT2 := hT1.stepC hW2 hS2
              have bel2 : Below w.heap.size w y2 := bel1.trans (hT1.c.below hS2 bel1.size)
              refine ⟨_, rfl, hX2, ?_⟩
              simp only [Act.put, List.setIfInBounds_toArray, List.set_cons_zero, List.set_cons_succ]
              clear hX1 hT1 hW2 hS2 bel1
              refine h_take 6 (.bool (okT x)) rfl 16 rfl (by kernel_rfl) (by kernel_rfl) (by kernel_rfl) (by kernel_rfl) (fun _ _ _ h => h) (fun w' _ => by kernel_rfl) hX2 ?_
              simp only [Act.put, List.setIfInBounds_toArray, List.set_cons_zero, List.set_cons_succ]
              refine h_take 7 (.bool (okT x)) rfl 17 rfl (by kernel_rfl) (by kernel_rfl) (by kernel_rfl) (by kernel_rfl) (fun _ _ _ h => h) (fun w' _ => by kernel_rfl) hX2 ?_
              simp only [Act.put, List.setIfInBounds_toArray, List.set_cons_zero, List.set_cons_succ]
              refine wpAnyH_done (by kernel_rfl) ?_ _
              clear hX2
              have hbb : (okT x == okT x) = true := by simp
              go_wp2_with fail
              go_roundw
              case rel => exact ⟨⟨k + 1, by omega, by go_num, rfl, p1, c1, pb, cb, p2, c2, by rw [encs_take m k hlt, ← HX.out, ← List.append_assoc]; exact hT2⟩, bel2⟩
              case measure => simp [intOf]; omega
            · obtain rfl : k = m.length := by omega
              rw [List.take_length] at hT hem
              obtain ⟨lm, hlm⟩ : ∃ lm, lm = encs l ++ encs m := ⟨_, rfl⟩
              have hll : lm.length = (encs l).length + (encs m).length := by rw [hlm, List.length_append]
              rw [← hlm] at hT
              have HLM := Lib.hid hlm; clear hlm
              have HLL := Lib.hid hll; clear hll
              have HLT : Hid (AllLt 256 lm) := Lib.hid (by rw [HLM.out]; exact append_lt (encs_lt l (fun x hx => HLl.out.mem x hx)) (encs_lt m (fun x hx => HLm.out.mem x hx)))
              go_wp2_with (first
                | ((with_reducible refine at_slot 76 ?_); (refine arm_buildSlice (o := ⟨some 76, _, _, _, _, _⟩) rfl 0 _ rfl [] #[] (by simp) bs0 ?_); intro b1 y1 hb1 hR1 hN1))
              have s1 := hN1.below.size
              refine (wBytes_any w.heap.size A pb cb (encs l) y1 (hT.b.old hN1.below) (by omega)).mono ?_
              rintro e y2 ⟨⟨q2, c2, rfl, hO2⟩, hB2⟩
              have s2 := hB2.size
              have hOb : Own y2 wr.heap.size (some ⟨b1, 0, none⟩) 0 [] := (own_new hR1 (by have := hb1.out; omega)).below hB2
              have bw2 : Below wr.heap.size wr y2 := hN1.below.trans (hB2.mono s1)
              go_wp2_with (first
                | ((with_reducible refine at_slot 79 ?_); (refine arm_append2 (o := ⟨some 79, _, _, _, _, _⟩) rfl _ _ rfl wr.heap.size (some ⟨b1, 0, none⟩) 0 0 [] rfl rfl hOb q2 (encs l).length c2 (encs l) rfl rfl (own_none hO2) hO2.rd.at_ (by rw [List.length_nil]; omega) (by omega) ?_); intro p3 cap3 y3 hO3 hS3))
              have s3 := hS3.size
              have bw3 : Below wr.heap.size wr y3 := bw2.trans (hS3.below (fun k hk => by cases hk) (own_low hOb) (by omega))
              clear hb1 hR1 hN1 hO2 hB2 hOb hS3 bw2
              refine (wBytes_any w.heap.size B pa ca (encs m) y3 (hT.a.old bw3) (by omega)).mono ?_
              rintro e y4 ⟨⟨q4, c4, rfl, hO4⟩, hB4⟩
              have s4 := hB4.size
              go_wp2_with (first
                | ((with_reducible refine at_slot 82 ?_); (refine arm_append2 (o := ⟨some 82, _, _, _, _, _⟩) rfl _ _ rfl wr.heap.size p3 _ cap3 ([] ++ encs l) (by first | rfl | simp) rfl (hO3.below hB4) q4 (encs m).length c4 (encs m) rfl rfl (own_none hO4) hO4.rd.at_ (by rw [List.nil_append]; omega) (by omega) ?_); intro p5 cap5 y5 hO5 hS5))
              have s5 := hS5.size
              have bw5 : Below wr.heap.size wr y5 := (bw3.trans (hB4.mono (by omega))).trans (hS5.below (fun k hk => by cases hk) (own_low hO3) (by omega))
              rw [List.nil_append, ← HLM.out] at hO5
              have hT5 := hT.old bw5
              have bel5 : Below w.heap.size w y5 := below_step hbel hbel.size bw5
              clear s1 s2 s3 s4 s5 hO3 hO4 hB4 hS5 bw3 bw5 hT hbel hk hlt
              go_wp2_with fail
              refine (wBytes_any w.heap.size C pc cc lm y5 hT5.c (by have := HLL.out; omega)).mono ?_
              rintro e y6 ⟨⟨q6, c6, rfl, hO6⟩, hB6⟩
              have hT6 := hT5.old hB6
              have bel6 : Below w.heap.size w y6 := below_step bel5 bel5.size hB6
              have hO56 := hO5.below hB6
              clear hT5 hO5 hB6 bel5
              go_wp2_with fail
              refine (same_at lm lm q6 p5 c6 cap5 _ _ rfl HLL.out.symm y6 hO6.rd hO56.rd (by have := HLL.out; omega) (by have := HLL.out; omega)).mono ?_
              rw [decide_eq_true (rfl : lm = lm)]
              rintro e y7 ⟨rfl, hB7⟩
              have hT7 := hT6.old hB7
              have bel7 : Below w.heap.size w y7 := below_step bel6 bel6.size hB7
              have hO57 := hO56.below hB7
              clear hT6 hO6 hO56 hB7 bel6
              go_wp2_with fail
              refine (wBytes_any w.heap.size A pb cb (encs l) y7 hT7.b (by omega)).mono ?_
              rintro e y8 ⟨⟨q8, c8, rfl, hO8⟩, hB8⟩
              have hT8 := hT7.old hB8
              have bel8 : Below w.heap.size w y8 := below_step bel7 bel7.size hB8
              have hO58 := hO57.below hB8
              clear hT7 hO57 hB8 bel7
              go_wp2_with fail
              refine (same_any (encs l) (encs l) q q8 qc c8 y8 hT8.own.rd hO8.rd (by omega) (by omega)).mono ?_
              rw [decide_eq_true (rfl : encs l = encs l)]
              rintro e y9 ⟨rfl, hB9⟩
              have hT9 := hT8.old hB9
              have bel9 : Below w.heap.size w y9 := below_step bel8 bel8.size hB9
              have hO59 := hO58.below hB9
              clear hT8 hO58 hO8 hB9 bel8
              go_wp2_with fail
              refine (rNew_at lm p5 cap5 _ HLL.out.symm y9 hO59.rd (fun e => by have := (own_none hO59) e; have := HLL.out; omega) (by have := HLL.out; omega) HLT.out).mono ?_
              rintro e y10 ⟨⟨R, d, rfl, hA10, hlR0, _⟩, hB10⟩
              have lR : w.heap.size ≤ R := Nat.le_trans bel9.size hlR0
              have h0 : RpRel w R d B l (encs m) (.int .i64 0) y10 := ⟨⟨0, by omega, rfl, by rw [List.drop_zero, ← HLM.out]; exact hA10, pa, ca, hT9.a.old hB10⟩, below_step bel9 bel9.size hB10⟩
              clear hA10 hlR0 hB10 hT9 hO59 bel9
              go_wp2_with fail
              go_loopw [103] (fun i wr => RpRel w R d B l (encs m) i wr) (fun i _ => l.length - (intOf i).toNat)
              case atStart => exact h0
              case round =>
                clear h0
                obtain ⟨⟨k, hk, rfl, hA, p, cp, hWr⟩, hbel⟩ := hrel
                have hed : (encs (l.drop k)).length ≤ 25600 := by
                  have h1 := encs_len (l.drop k) (fun x hx => (HLl.out.mem x (List.mem_of_mem_drop hx)).h_)
                  rw [List.length_drop] at h1; omega
                by_cases hlt : k < l.length
                · obtain ⟨g, o, rfl, hg, hrows⟩ := HLl.out.at_ (by omega)
                  obtain ⟨hrg, hok⟩ := hrows k hlt
                  have hrw := range_block hrg (hbel.block g hg)
                  clear hrows hrg
                  have hxb : (l.getD k default).b.length ≤ 300 := HBl.out.2 _ (getD_mem l k hlt)
                  obtain ⟨x, hx⟩ : ∃ x, x = l.getD k default := ⟨_, rfl⟩
                  rw [← hx] at hrw hok hxb
                  have HX := Lib.hid hx; clear hx
                  have HTL := Lib.hid (tcells_len hok.h_)
                  have HT1 := Lib.hid (tcells_one x)
                  obtain ⟨tc, htc⟩ : ∃ tc, tc = tcells x := ⟨_, rfl⟩
                  have HTC := Lib.hid htc
                  rw [← htc] at hrw HTL HT1
                  have HOK := Lib.hid hok; clear htc hok
                  have ik : (k : Int) < (l.length : Int) := by omega
                  have H34 : Hid (tc[34]? = some (.slice x.bp x.b.length x.bc)) := Lib.hid (by rw [HTC.out]; exact tcells34 HOK.out.h_)
                  have H0 : Hid (tc[0]? = some (.int .i64 x.kind)) := Lib.hid (by rw [HTC.out]; rfl)
                  have HED := Lib.hid (encs_drop l k hlt)
                  rw [← HX.out] at HED
                  by_cases hskip : x.kind = 4 ∧ 255 < x.b.length
                  · have hE : encT x = [] := by
                      unfold encT txt
                      rw [hskip.1, if_neg (by decide), if_neg (by decide), if_neg (by decide), if_neg (by decide), if_pos rfl, if_neg (by omega)]
                    rw [hE, List.nil_append] at HED
                    rw [hskip.1] at H0
                    have hd : decide ((x.b.length : Int) ≤ 255) = false := decide_eq_false (by omega)
                    clear hskip hE
                    go_wp2_with (first
                      | ((with_reducible refine at_slot 105 ?_); (refine arm_indexN (o := ⟨some 105, _, _, _, _, _⟩) rfl _ _ _ rfl 33 36 (by kernel_rfl) (by kernel_rfl) g o _ _ rfl .i64 k rfl hlt ?_))
                      | ((with_reducible refine at_slot 106 ?_); (refine arm_load (o := ⟨some 106, _, _, _, _, _⟩) rfl _ _ rfl g (o + k * 36) rfl tc hrw (by rw [HTL.out]; exact sz_thing) ?_))
                      | ((with_reducible refine at_slot 21 ?_); (refine arm_alloc (o := ⟨some 21, _, _, _, _, _⟩) rfl _ rfl zcells z_thing ?_); intro X w4 hXe hR4 hN4)
                      | ((with_reducible refine arm_store (o := ⟨none, _, _, _, _, _⟩) rfl _ _ _ rfl X 0 rfl tc rfl _ _ hR4 (by rw [HTL.out, zcells_len]; omega) HT1.out (by rw [HTL.out]; exact sz_thing) ?_); intro w5 hR5 hO5 hS5; have hX5 := hR5.congr (lay_all _ _ (by rw [HTL.out, zcells_len])); have c0 := hX5.cell H0.out; have c34 := hX5.cell H34.out))
                    have eX := hXe.out
                    have bel5 : Below wr.heap.size wr w5 := below_only hN4.below hO5 (by omega) hN4.below.size
                    have bel05 : Below w.heap.size w w5 := below_step hbel hbel.size bel5
                    clear eX hXe hR4 hN4 hR5 hO5 hS5 hX5 hrw c0 c34
                    go_roundw
                    case rel => exact ⟨⟨k + 1, by omega, by go_num, by rw [← HED.out]; exact hA.old bel5, p, cp, hWr.old bel5⟩, bel05⟩
                    case measure => simp [intOf]; omega
                  · have hokx : okT x = true := by
                      unfold okT
                      by_cases h1 : x.kind = 4
                      · rw [decide_eq_true h1, decide_eq_false (fun h => hskip ⟨h1, h⟩)]; rfl
                      · rw [decide_eq_false h1]; rfl
                    have hrt : rdT x (encs (l.drop k) ++ encs m, 0) = (true, (encs (l.drop (k + 1)) ++ encs m, 0)) := by rw [HED.out, List.append_assoc]; exact rd_back x HOK.out hokx _
                    have HRT := Lib.hid hrt; clear hrt hokx
                    by_cases h4 : x.kind = 4
                    · have hd : decide ((x.b.length : Int) ≤ 255) = true := decide_eq_true (by omega)
                      rw [h4] at H0
                      clear h4 hskip
                      go_wp2_with (first
                        | ((with_reducible refine at_slot 105 ?_); (refine arm_indexN (o := ⟨some 105, _, _, _, _, _⟩) rfl _ _ _ rfl 33 36 (by kernel_rfl) (by kernel_rfl) g o _ _ rfl .i64 k rfl hlt ?_))
                        | ((with_reducible refine at_slot 106 ?_); (refine arm_load (o := ⟨some 106, _, _, _, _, _⟩) rfl _ _ rfl g (o + k * 36) rfl tc hrw (by rw [HTL.out]; exact sz_thing) ?_))
                        | ((with_reducible refine at_slot 21 ?_); (refine arm_alloc (o := ⟨some 21, _, _, _, _, _⟩) rfl _ rfl zcells z_thing ?_); intro X w4 hXe hR4 hN4)
                        | ((with_reducible refine arm_store (o := ⟨none, _, _, _, _, _⟩) rfl _ _ _ rfl X 0 rfl tc rfl _ _ hR4 (by rw [HTL.out, zcells_len]; omega) HT1.out (by rw [HTL.out]; exact sz_thing) ?_); intro w5 hR5 hO5 hS5; have hX5 := hR5.congr (lay_all _ _ (by rw [HTL.out, zcells_len])); have c0 := hX5.cell H0.out; have c34 := hX5.cell H34.out)
                        | ((with_reducible refine at_slot 117 ?_); (refine arm_load (o := ⟨some 117, _, _, _, _, _⟩) rfl _ _ rfl X 0 rfl tc (hX5.range 0 _ (fun j v hj => by rw [Nat.zero_add]; exact hj)) (by rw [HTL.out]; exact sz_thing) ?_)))
                      have eX := hXe.out
                      have bel5 : Below wr.heap.size wr w5 := below_only hN4.below hO5 (by omega) hN4.below.size
                      have bel05 : Below w.heap.size w w5 := below_step hbel hbel.size bel5
                      clear eX hXe hR4 hN4 hR5 hO5 hS5 hX5 hrw c0 c34
                      have hcall := read_any x R d _ w5 (hA.old bel5) (by show (encs (l.drop k) ++ encs m).length ≤ _; rw [List.length_append]; omega) (HOK.out.below bel05) (by omega)
                      rw [← HTC.out, HRT.out] at hcall
                      refine hcall.mono ?_
                      clear hcall
                      rintro e w6 ⟨rfl, hA6, hO6⟩
                      have bel6 : Below w.heap.size w w6 := below_only bel05 hO6 lR bel05.size
                      have hWr6 := (hWr.old bel5).keep (hA.old bel5) hO6
                      clear hA hWr bel5 bel05 hO6
                      go_wp2_with fail
                      go_roundw
                      case rel => exact ⟨⟨k + 1, by omega, by go_num, hA6, p, cp, hWr6⟩, bel6⟩
                      case measure => simp [intOf]; omega
                    · have hd : (x.kind != 4) = true := by simpa using h4
                      clear h4 hskip
                      go_wp2_with (first
                        | ((with_reducible refine at_slot 105 ?_); (refine arm_indexN (o := ⟨some 105, _, _, _, _, _⟩) rfl _ _ _ rfl 33 36 (by kernel_rfl) (by kernel_rfl) g o _ _ rfl .i64 k rfl hlt ?_))
                        | ((with_reducible refine at_slot 106 ?_); (refine arm_load (o := ⟨some 106, _, _, _, _, _⟩) rfl _ _ rfl g (o + k * 36) rfl tc hrw (by rw [HTL.out]; exact sz_thing) ?_))
                        | ((with_reducible refine at_slot 21 ?_); (refine arm_alloc (o := ⟨some 21, _, _, _, _, _⟩) rfl _ rfl zcells z_thing ?_); intro X w4 hXe hR4 hN4)
                        | ((with_reducible refine arm_store (o := ⟨none, _, _, _, _, _⟩) rfl _ _ _ rfl X 0 rfl tc rfl _ _ hR4 (by rw [HTL.out, zcells_len]; omega) HT1.out (by rw [HTL.out]; exact sz_thing) ?_); intro w5 hR5 hO5 hS5; have hX5 := hR5.congr (lay_all _ _ (by rw [HTL.out, zcells_len])); have c0 := hX5.cell H0.out; have c34 := hX5.cell H34.out)
                        | ((with_reducible refine at_slot 117 ?_); (refine arm_load (o := ⟨some 117, _, _, _, _, _⟩) rfl _ _ rfl X 0 rfl tc (hX5.range 0 _ (fun j v hj => by rw [Nat.zero_add]; exact hj)) (by rw [HTL.out]; exact sz_thing) ?_)))
                      have eX := hXe.out
                      have bel5 : Below wr.heap.size wr w5 := below_only hN4.below hO5 (by omega) hN4.below.size
                      have bel05 : Below w.heap.size w w5 := below_step hbel hbel.size bel5
                      clear eX hXe hR4 hN4 hR5 hO5 hS5 hX5 hrw c0 c34
                      have hcall := read_any x R d _ w5 (hA.old bel5) (by show (encs (l.drop k) ++ encs m).length ≤ _; rw [List.length_append]; omega) (HOK.out.below bel05) (by omega)
                      rw [← HTC.out, HRT.out] at hcall
                      refine hcall.mono ?_
                      clear hcall
                      rintro e w6 ⟨rfl, hA6, hO6⟩
                      have bel6 : Below w.heap.size w w6 := below_only bel05 hO6 lR bel05.size
                      have hWr6 := (hWr.old bel5).keep (hA.old bel5) hO6
                      clear hA hWr bel5 bel05 hO6
                      go_wp2_with fail
                      go_roundw
                      case rel => exact ⟨⟨k + 1, by omega, by go_num, hA6, p, cp, hWr6⟩, bel6⟩
                      case measure => simp [intOf]; omega
                · obtain rfl : k = l.length := by omega
                  rw [List.drop_length, show encs [] = [] from rfl, List.nil_append] at hA
                  go_wp2_with fail
                  refine (rLeft_any R d _ wr hA).mono ?_
                  rintro e z1 ⟨rfl, rfl⟩
                  rw [show ((encs m, 0) : RS).1.length = (encs m).length from rfl]
                  go_wp2_with fail
                  refine (wBytes_any w.heap.size B p cp (encs m) wr hWr (by omega)).mono ?_
                  rintro e z2 ⟨⟨q2, c2, rfl, hO2⟩, hB2⟩
                  go_wp2_with fail
                  go_ret
                  exact ⟨by simp, below_step hbel hbel.size hB2⟩
end Go.Proofs.Yticdapgfjkhoaaa.Wi
