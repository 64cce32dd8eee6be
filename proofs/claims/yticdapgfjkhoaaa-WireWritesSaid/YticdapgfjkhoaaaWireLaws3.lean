/-
  The walk of layer 4's statement WireWrites over this seat's translation, out of the contracts: it returns true, and changes nothing that was there.
-/
import Derived.Test.YticdapgfjkhoaaaWireRefW
namespace Go.Proofs.Yticdapgfjkhoaaa.Wi
open Go.ChangeShapes Go.WideShapes Go.ChangeAt Go.RowKit Go.Proofs.Yticdapgfjkhoaaa.Mem Go.Proofs.Yticdapgfjkhoaaa.Bt Go.Proofs.Yticdapgfjkhoaaa.Tg
set_option linter.unusedVariables false
set_option linter.unusedSimpArgs false

theorem txt_len (b : List Nat) : (txt b).length ≤ 256 := by
  unfold txt
  split
  · rw [List.length_cons]; omega
  · simp
/-- A writer beside a slice that grows. -/
theorem wr_beside {w w' : World} {base W : Nat} {p q q' : Option Addr} {cap qc : Nat} {bs ws : List Nat} (h : Wr w base W p cap bs) (ho : Own w base q qc ws) (hs : Step none q q' w w') (hsep : Sep q p) : Wr w' base W p cap bs :=
  ⟨h.row.of_block (hs.block W h.lt (by simp) (row_not_own h.row (by decide) ho)), own_step h.own hs hsep (fun k hk => by cases hk), h.low⟩
/-- What holds while things are written, and the document's bytes beside them. -/
structure WwRel (w : World) (W : Nat) (l : List Thing) (i v : Value) (wr : World) : Prop where
  ex : ∃ k : Nat, k ≤ l.length ∧ i = .int .i64 k ∧ ∃ p cap q qc n, v = .slice q n qc ∧ n = (encs (l.take k)).length ∧ Wr wr w.heap.size W p cap (encs (l.take k)) ∧ Own wr w.heap.size q qc (encs (l.take k)) ∧ Sep p q
  bel : Below w.heap.size w wr

set_option maxHeartbeats 4000000 in
set_option maxRecDepth 100000 in
theorem wireWrites_any (l : List Thing) (P : Option Addr) (capL : Nat) (w : World) (hl : Things w P l) (hm : l.length ≤ maxLen) :
    Calls Try.prog 3 #[.slice P l.length capL] w fun e w' => e = .returned (.bool true) ∧ Below w.heap.size w w' := by
  have HL := Lib.hid hl; have HM := Lib.hid hm
  clear hl hm
  go_enter Try.func3, Try.ntmps3
  go_wp2_with fail
  refine (awake_any w).mono ?_
  rintro e w1 ⟨rfl, h1⟩
  go_wp2_with fail
  refine (large_any l P capL w1 (HL.out.below h1) HM.out).mono ?_
  rintro e w2 ⟨⟨big, rfl, hbig⟩, hB2⟩
  have bel2 : Below w.heap.size w w2 := below_step h1 h1.size hB2
  clear hB2 h1
  cases big with
  | true =>
    go_wp2_with fail
    go_ret
    exact ⟨rfl, bel2⟩
  | false =>
    have HBIG := Lib.hid (hbig rfl)
    have hn100 := (hbig rfl).1
    clear hbig
    go_wp2_with (first
      | ((with_reducible refine at_slot 14 ?_); (refine arm_build (o := ⟨some 14, _, _, _, _, _⟩) rfl _ _ rfl [.slice none 0 0] built_wr ?_))
      | ((with_reducible refine at_slot 15 ?_); (refine arm_box (o := ⟨some 15, _, _, _, _, _⟩) rfl _ _ rfl [.slice none 0 0] rfl ?_); intro W w3 hW hR3 hN3)
      | ((with_reducible refine at_slot 16 ?_); (refine arm_buildSlice (o := ⟨some 16, _, _, _, _, _⟩) rfl 0 _ rfl [] #[] (by simp) bs0 ?_); intro b4 w4 hb4 hR4 hN4))
    have eW := hW.out; have e4 := hb4.out
    have s2 := bel2.size; have s3 := hN3.below.size
    have h0 : WwRel w W l (.int .i64 0) (.slice (some ⟨b4, 0, none⟩) 0 0) w4 := ⟨⟨0, by omega, rfl, none, 0, some ⟨b4, 0, none⟩, 0, 0, rfl, rfl, (wr_new hR3 (by omega)).old hN4.below, own_new hR4 (by omega), sep_none' _⟩, below_step (below_step bel2 s2 hN3.below) (by omega) hN4.below⟩
    clear eW e4 s2 s3 hW hb4 hR3 hN3 hR4 hN4 bel2
    go_loopw [19, 4] (fun i v wr => WwRel w W l i v wr) (fun i _ _ => l.length - (intOf i).toNat)
    case atStart => exact h0
    case round =>
      clear h0
      obtain ⟨⟨k, hk, rfl, p, cap, q, qc, n, rfl, hn, hWr, hOwn, hsep⟩, hbel⟩ := hrel
      by_cases hlt : k < l.length
      · have hel : (encs (l.take k)).length ≤ 25600 := by
          have h1 := encs_len (l.take k) (fun x hx => (HL.out.mem x (List.mem_of_mem_take hx)).h_)
          rw [List.length_take] at h1; omega
        obtain ⟨g, o, rfl, hg, hrows⟩ := HL.out.at_ (by omega)
        obtain ⟨hrg, hok⟩ := hrows k hlt
        have hrw := range_block hrg (hbel.block g hg)
        clear hrows hrg
        have hxb : (l.getD k default).b.length ≤ 300 := HBIG.out.2 _ (getD_mem l k hlt)
        obtain ⟨x, hx⟩ : ∃ x, x = l.getD k default := ⟨_, rfl⟩
        rw [← hx] at hrw hok hxb
        have HX := Lib.hid hx; clear hx
        have HTL := Lib.hid (tcells_len hok.h_)
        have HT1 := Lib.hid (tcells_one x)
        obtain ⟨tc, htc⟩ : ∃ tc, tc = tcells x := ⟨_, rfl⟩
        have HTC := Lib.hid htc
        rw [← htc] at hrw HTL HT1
        have HOK := Lib.hid hok; clear htc hok
        have ik : (k : Int) < (l.length : Int) := by omega
        have H34 : Hid (tc[34]? = some (.slice x.bp x.b.length x.bc)) := Lib.hid (by rw [HTC.out]; exact tcells34 HOK.out.h_)
        have H0 : Hid (tc[0]? = some (.int .i64 x.kind)) := Lib.hid (by rw [HTC.out]; rfl)
        have H1 : Hid (tc[1]? = some (.int .u64 (x.n : Int))) := Lib.hid (by rw [HTC.out]; rfl)
        have HBN := Lib.hid (encs_take l k hlt)
        rw [← HX.out] at HBN
        generalize encs (l.take k) = bs at hn hWr hOwn hel HBN
        have HN := Lib.hid hn; clear hn
        have HBL := Lib.hid hel; clear hel
        have hxn := HOK.out.n_
        by_cases k0 : x.kind = 0
        ·   have HE : Hid (encT x = [x.n % 256]) := Lib.hid (by unfold encT; rw [if_pos k0])
            have HO : okT x = true := by unfold okT; rw [k0]; rfl
            rw [k0] at H0
            clear k0
            go_wp2_with (first
              | ((with_reducible refine at_slot 21 ?_); (refine arm_indexN (o := ⟨some 21, _, _, _, _, _⟩) rfl _ _ _ rfl 33 36 (by kernel_rfl) (by kernel_rfl) g o _ _ rfl .i64 k rfl hlt ?_))
              | ((with_reducible refine at_slot 22 ?_); (refine arm_load (o := ⟨some 22, _, _, _, _, _⟩) rfl _ _ rfl g (o + k * 36) rfl tc hrw (by rw [HTL.out]; exact sz_thing) ?_))
              | ((with_reducible refine at_slot 6 ?_); (refine arm_alloc (o := ⟨some 6, _, _, _, _, _⟩) rfl _ rfl zcells z_thing ?_); intro X w4 hXe hR4 hN4)
              | ((with_reducible refine arm_store (o := ⟨none, _, _, _, _, _⟩) rfl _ _ _ rfl X 0 rfl tc rfl _ _ hR4 (by rw [HTL.out, zcells_len]; omega) HT1.out (by rw [HTL.out]; exact sz_thing) ?_); intro w5 hR5 hO5 hS5; have hX5 := hR5.congr (lay_all _ _ (by rw [HTL.out, zcells_len])))
              | ((with_reducible refine at_slot 24 ?_); (refine arm_load (o := ⟨some 24, _, _, _, _, _⟩) rfl _ _ rfl X 0 rfl tc (hX5.range 0 _ (fun j v hj => by rw [Nat.zero_add]; exact hj)) (by rw [HTL.out]; exact sz_thing) ?_)))
            have eX := hXe.out
            have bel5 : Below wr.heap.size wr w5 := below_only hN4.below hO5 (by omega) hN4.below.size
            have bel05 : Below w.heap.size w w5 := below_step hbel hbel.size bel5
            have hW5 := hWr.old bel5
            have hQ5 := hOwn.below bel5
            have HXW : Hid (X ≠ W) := Lib.hid (by have := hWr.lt; omega)
            have HXQ : Hid (blk q ≠ some X) := Lib.hid (fun e => by have := (own_blk hOwn e).2.1; omega)
            clear eX hXe hR4 hN4 hR5 hO5 hS5 hrw hWr hOwn hbel bel5
            have hcall := write_any x w.heap.size W p cap _ w5 hW5 bel05.size (by have := HBL.out; omega) (HOK.out.below bel05) (sep_old HOK.out hW5.own)
            rw [← HTC.out, HO] at hcall
            refine hcall.mono ?_
            clear hcall
            rintro e w6 ⟨rfl, p1, c1, hW6, hS6⟩
            have hX6 := row_step hX5 hW5 hS6 HXW.out
            have hQ6 := own_step hQ5 hS6 hsep (fun j hj => by rw [← Option.some.inj hj]; exact row_not_own hW5.row (by decide) hQ5)
            have hS1 := hsep.next hS6 hQ5
            have bel6 : Below w.heap.size w w6 := bel05.trans (hW5.below hS6 bel05.size)
            have c0 := hX6.cell H0.out
            have c1n := hX6.cell H1.out
            have c34 := hX6.cell H34.out
            have lQ := own_low hQ6
            clear hX5 hW5 hQ5 hS6 bel05
            go_wp2_with (first
              | ((with_reducible refine at_slot 35 ?_); (refine arm_buildSlice (o := ⟨some 35, _, _, _, _, _⟩) rfl 1 _ rfl [.int .u8 ((x.n % 256 : Nat) : Int)] #[(0, .int .u8 ((x.n % 256 : Nat) : Int))] (by simp [Act.eval]) (bs1 _) ?_); intro b2 y2 hb2 hR2 hN2)
              | ((with_reducible refine at_slot 36 ?_); (refine arm_append2 (o := ⟨some 36, _, _, _, _, _⟩) rfl _ _ rfl w.heap.size q n qc bs HN.out rfl (hQ6.below hN2.below) (some ⟨b2, 0, none⟩) 1 1 [x.n % 256] rfl rfl (fun h => by cases h) (fun _ => ⟨b2, 0, rfl, hR2.range 0 _ (fun j v hj => by rw [Nat.zero_add]; exact hj)⟩) (by rw [List.length_singleton]; have := HBL.out; omega) (by have := bel6.size; have := hN2.below.size; omega) ?_); intro q3 qc3 y3 hO3 hS3; refine pause ?_))
            have hW2 := hW6.old hN2.below
            have hQ2 := hQ6.below hN2.below
            have bely2 : Below w.heap.size w y2 := below_step bel6 bel6.size hN2.below
            have hWf : Wr y3 w.heap.size W p1 c1 (bs ++ encT x) := wr_beside hW2 hQ2 hS3 hS1.symm
            have hOf : Own y3 w.heap.size q3 qc3 (bs ++ encT x) := by rw [HE.out]; exact hO3
            have hSf : Sep p1 q3 := (hS1.symm.next hS3 hW2.own).symm
            have belf : Below w.heap.size w y3 := bely2.trans (hS3.below (fun j hj => by cases hj) lQ bely2.size)
            clear hb2 hR2 hN2 hO3 hS3 hW2 hQ2 bely2 hW6 hQ6 hS1 hX6 c0 c1n c34 lQ bel6
            unfold Pause
            have hlf : (bs ++ encT x).length = n + 1 := by rw [List.length_append, HN.out, HE.out, List.length_singleton]
            have hel2 : (bs ++ encT x).length ≤ 30000 := by rw [List.length_append]; have := HBL.out; have := encT_len x HOK.out.h_; omega
            have HLF := Lib.hid hlf; clear hlf
            go_wp2_with fail
            refine (wBytes_any w.heap.size W p1 c1 (bs ++ encT x) y3 hWf (by omega)).mono ?_
            rintro e z1 ⟨⟨q9, c9, rfl, hO9⟩, hB9⟩
            have hWg := hWf.old hB9
            have hOg := hOf.below hB9
            have belg : Below w.heap.size w z1 := below_step belf belf.size hB9
            clear hWf hOf hB9 belf
            rw [HLF.out]
            go_wp2_with fail
            refine (same_at (bs ++ encT x) (bs ++ encT x) q9 q3 c9 qc3 _ _ (by rw [HLF.out]) (by rw [HLF.out]) z1 hO9.rd hOg.rd (by omega) (by omega)).mono ?_
            rw [decide_eq_true (rfl : bs ++ encT x = bs ++ encT x)]
            rintro e z2 ⟨rfl, hB2⟩
            have hWh := hWg.old hB2
            have hOh := hOg.below hB2
            have belh : Below w.heap.size w z2 := below_step belg belg.size hB2
            clear hWg hOg hO9 hB2 belg
            go_wp2_with fail
            go_roundw
            case rel => exact ⟨⟨k + 1, by omega, by go_num, p1, c1, q3, qc3, n + 1, rfl, by rw [HBN.out, HLF.out], by rw [HBN.out]; exact hWh, by rw [HBN.out]; exact hOh, hSf⟩, belh⟩
            case measure => simp [intOf]; omega
        by_cases k1 : x.kind = 1
        ·   have HE : Hid (encT x = put (x.n % 4294967296) 4) := Lib.hid (by unfold encT; rw [if_neg k0, if_pos k1]; exact (put_mod 4 x.n).symm)
            have HO : okT x = true := by unfold okT; rw [k1]; rfl
            rw [k1] at H0
            clear k0 k1
            go_wp2_with (first
              | ((with_reducible refine at_slot 21 ?_); (refine arm_indexN (o := ⟨some 21, _, _, _, _, _⟩) rfl _ _ _ rfl 33 36 (by kernel_rfl) (by kernel_rfl) g o _ _ rfl .i64 k rfl hlt ?_))
              | ((with_reducible refine at_slot 22 ?_); (refine arm_load (o := ⟨some 22, _, _, _, _, _⟩) rfl _ _ rfl g (o + k * 36) rfl tc hrw (by rw [HTL.out]; exact sz_thing) ?_))
              | ((with_reducible refine at_slot 6 ?_); (refine arm_alloc (o := ⟨some 6, _, _, _, _, _⟩) rfl _ rfl zcells z_thing ?_); intro X w4 hXe hR4 hN4)
              | ((with_reducible refine arm_store (o := ⟨none, _, _, _, _, _⟩) rfl _ _ _ rfl X 0 rfl tc rfl _ _ hR4 (by rw [HTL.out, zcells_len]; omega) HT1.out (by rw [HTL.out]; exact sz_thing) ?_); intro w5 hR5 hO5 hS5; have hX5 := hR5.congr (lay_all _ _ (by rw [HTL.out, zcells_len])))
              | ((with_reducible refine at_slot 24 ?_); (refine arm_load (o := ⟨some 24, _, _, _, _, _⟩) rfl _ _ rfl X 0 rfl tc (hX5.range 0 _ (fun j v hj => by rw [Nat.zero_add]; exact hj)) (by rw [HTL.out]; exact sz_thing) ?_)))
            have eX := hXe.out
            have bel5 : Below wr.heap.size wr w5 := below_only hN4.below hO5 (by omega) hN4.below.size
            have bel05 : Below w.heap.size w w5 := below_step hbel hbel.size bel5
            have hW5 := hWr.old bel5
            have hQ5 := hOwn.below bel5
            have HXW : Hid (X ≠ W) := Lib.hid (by have := hWr.lt; omega)
            have HXQ : Hid (blk q ≠ some X) := Lib.hid (fun e => by have := (own_blk hOwn e).2.1; omega)
            clear eX hXe hR4 hN4 hR5 hO5 hS5 hrw hWr hOwn hbel bel5
            have hcall := write_any x w.heap.size W p cap _ w5 hW5 bel05.size (by have := HBL.out; omega) (HOK.out.below bel05) (sep_old HOK.out hW5.own)
            rw [← HTC.out, HO] at hcall
            refine hcall.mono ?_
            clear hcall
            rintro e w6 ⟨rfl, p1, c1, hW6, hS6⟩
            have hX6 := row_step hX5 hW5 hS6 HXW.out
            have hQ6 := own_step hQ5 hS6 hsep (fun j hj => by rw [← Option.some.inj hj]; exact row_not_own hW5.row (by decide) hQ5)
            have hS1 := hsep.next hS6 hQ5
            have bel6 : Below w.heap.size w w6 := bel05.trans (hW5.below hS6 bel05.size)
            have c0 := hX6.cell H0.out
            have c1n := hX6.cell H1.out
            have c34 := hX6.cell H34.out
            have lQ := own_low hQ6
            clear hX5 hW5 hQ5 hS6 bel05
            go_wp2_with fail
            have HV : Hid ((x.n : Int) % 4294967296 = ((x.n % 4294967296 : Nat) : Int)) := Lib.hid (by omega)
            try rw [HV.out]
            refine (put_any (x.n % 4294967296) 4 w6 (by omega) (by omega)).mono ?_
            rintro e y2 ⟨⟨q5, c5, rfl, hO5⟩, hB5⟩
            have HPL := Lib.hid (put_length 4 (x.n % 4294967296))
            go_wp2_with (first
              | ((with_reducible refine at_slot 44 ?_); (refine arm_append2 (o := ⟨some 44, _, _, _, _, _⟩) rfl _ _ rfl w.heap.size q n qc bs HN.out rfl (hQ6.below hB5) q5 4 c5 (put (x.n % 4294967296) 4) rfl HPL.out.symm (fun e => by have := own_none hO5 e; rw [HPL.out] at this; exact this) hO5.bytes (by rw [HPL.out]; have := HBL.out; omega) (by have := bel6.size; have := hB5.size; omega) ?_); intro q3 qc3 y3 hO3 hS3; refine pause ?_))
            have hW2 := hW6.old hB5
            have hQ2 := hQ6.below hB5
            have bely2 : Below w.heap.size w y2 := below_step bel6 bel6.size hB5
            have hWf : Wr y3 w.heap.size W p1 c1 (bs ++ encT x) := wr_beside hW2 hQ2 hS3 hS1.symm
            have hOf : Own y3 w.heap.size q3 qc3 (bs ++ encT x) := by rw [HE.out]; exact hO3
            have hSf : Sep p1 q3 := (hS1.symm.next hS3 hW2.own).symm
            have belf : Below w.heap.size w y3 := bely2.trans (hS3.below (fun j hj => by cases hj) lQ bely2.size)
            clear hO5 hB5 hO3 hS3 hW2 hQ2 bely2 hW6 hQ6 hS1 hX6 c0 c1n c34 lQ bel6
            unfold Pause
            have hlf : (bs ++ encT x).length = n + 4 := by rw [List.length_append, HN.out, HE.out, put_length]
            have hel2 : (bs ++ encT x).length ≤ 30000 := by rw [List.length_append]; have := HBL.out; have := encT_len x HOK.out.h_; omega
            have HLF := Lib.hid hlf; clear hlf
            go_wp2_with fail
            refine (wBytes_any w.heap.size W p1 c1 (bs ++ encT x) y3 hWf (by omega)).mono ?_
            rintro e z1 ⟨⟨q9, c9, rfl, hO9⟩, hB9⟩
            have hWg := hWf.old hB9
            have hOg := hOf.below hB9
            have belg : Below w.heap.size w z1 := below_step belf belf.size hB9
            clear hWf hOf hB9 belf
            rw [HLF.out]
            go_wp2_with fail
            refine (same_at (bs ++ encT x) (bs ++ encT x) q9 q3 c9 qc3 _ _ (by rw [HLF.out]) (by rw [HLF.out]) z1 hO9.rd hOg.rd (by omega) (by omega)).mono ?_
            rw [decide_eq_true (rfl : bs ++ encT x = bs ++ encT x)]
            rintro e z2 ⟨rfl, hB2⟩
            have hWh := hWg.old hB2
            have hOh := hOg.below hB2
            have belh : Below w.heap.size w z2 := below_step belg belg.size hB2
            clear hWg hOg hO9 hB2 belg
            go_wp2_with fail
            go_roundw
            case rel => exact ⟨⟨k + 1, by omega, by go_num, p1, c1, q3, qc3, n + 4, rfl, by rw [HBN.out, HLF.out], by rw [HBN.out]; exact hWh, by rw [HBN.out]; exact hOh, hSf⟩, belh⟩
            case measure => simp [intOf]; omega
        by_cases k2 : x.kind = 2
        ·   have HE : Hid (encT x = put (x.n) 8) := Lib.hid (by unfold encT; rw [if_neg k0, if_neg k1, if_pos k2])
            have HO : okT x = true := by unfold okT; rw [k2]; rfl
            rw [k2] at H0
            clear k0 k1 k2
            go_wp2_with (first
              | ((with_reducible refine at_slot 21 ?_); (refine arm_indexN (o := ⟨some 21, _, _, _, _, _⟩) rfl _ _ _ rfl 33 36 (by kernel_rfl) (by kernel_rfl) g o _ _ rfl .i64 k rfl hlt ?_))
              | ((with_reducible refine at_slot 22 ?_); (refine arm_load (o := ⟨some 22, _, _, _, _, _⟩) rfl _ _ rfl g (o + k * 36) rfl tc hrw (by rw [HTL.out]; exact sz_thing) ?_))
              | ((with_reducible refine at_slot 6 ?_); (refine arm_alloc (o := ⟨some 6, _, _, _, _, _⟩) rfl _ rfl zcells z_thing ?_); intro X w4 hXe hR4 hN4)
              | ((with_reducible refine arm_store (o := ⟨none, _, _, _, _, _⟩) rfl _ _ _ rfl X 0 rfl tc rfl _ _ hR4 (by rw [HTL.out, zcells_len]; omega) HT1.out (by rw [HTL.out]; exact sz_thing) ?_); intro w5 hR5 hO5 hS5; have hX5 := hR5.congr (lay_all _ _ (by rw [HTL.out, zcells_len])))
              | ((with_reducible refine at_slot 24 ?_); (refine arm_load (o := ⟨some 24, _, _, _, _, _⟩) rfl _ _ rfl X 0 rfl tc (hX5.range 0 _ (fun j v hj => by rw [Nat.zero_add]; exact hj)) (by rw [HTL.out]; exact sz_thing) ?_)))
            have eX := hXe.out
            have bel5 : Below wr.heap.size wr w5 := below_only hN4.below hO5 (by omega) hN4.below.size
            have bel05 : Below w.heap.size w w5 := below_step hbel hbel.size bel5
            have hW5 := hWr.old bel5
            have hQ5 := hOwn.below bel5
            have HXW : Hid (X ≠ W) := Lib.hid (by have := hWr.lt; omega)
            have HXQ : Hid (blk q ≠ some X) := Lib.hid (fun e => by have := (own_blk hOwn e).2.1; omega)
            clear eX hXe hR4 hN4 hR5 hO5 hS5 hrw hWr hOwn hbel bel5
            have hcall := write_any x w.heap.size W p cap _ w5 hW5 bel05.size (by have := HBL.out; omega) (HOK.out.below bel05) (sep_old HOK.out hW5.own)
            rw [← HTC.out, HO] at hcall
            refine hcall.mono ?_
            clear hcall
            rintro e w6 ⟨rfl, p1, c1, hW6, hS6⟩
            have hX6 := row_step hX5 hW5 hS6 HXW.out
            have hQ6 := own_step hQ5 hS6 hsep (fun j hj => by rw [← Option.some.inj hj]; exact row_not_own hW5.row (by decide) hQ5)
            have hS1 := hsep.next hS6 hQ5
            have bel6 : Below w.heap.size w w6 := bel05.trans (hW5.below hS6 bel05.size)
            have c0 := hX6.cell H0.out
            have c1n := hX6.cell H1.out
            have c34 := hX6.cell H34.out
            have lQ := own_low hQ6
            clear hX5 hW5 hQ5 hS6 bel05
            go_wp2_with fail
            refine (put_any (x.n) 8 w6 (by omega) (by omega)).mono ?_
            rintro e y2 ⟨⟨q5, c5, rfl, hO5⟩, hB5⟩
            have HPL := Lib.hid (put_length 8 (x.n))
            go_wp2_with (first
              | ((with_reducible refine at_slot 51 ?_); (refine arm_append2 (o := ⟨some 51, _, _, _, _, _⟩) rfl _ _ rfl w.heap.size q n qc bs HN.out rfl (hQ6.below hB5) q5 8 c5 (put (x.n) 8) rfl HPL.out.symm (fun e => by have := own_none hO5 e; rw [HPL.out] at this; exact this) hO5.bytes (by rw [HPL.out]; have := HBL.out; omega) (by have := bel6.size; have := hB5.size; omega) ?_); intro q3 qc3 y3 hO3 hS3; refine pause ?_))
            have hW2 := hW6.old hB5
            have hQ2 := hQ6.below hB5
            have bely2 : Below w.heap.size w y2 := below_step bel6 bel6.size hB5
            have hWf : Wr y3 w.heap.size W p1 c1 (bs ++ encT x) := wr_beside hW2 hQ2 hS3 hS1.symm
            have hOf : Own y3 w.heap.size q3 qc3 (bs ++ encT x) := by rw [HE.out]; exact hO3
            have hSf : Sep p1 q3 := (hS1.symm.next hS3 hW2.own).symm
            have belf : Below w.heap.size w y3 := bely2.trans (hS3.below (fun j hj => by cases hj) lQ bely2.size)
            clear hO5 hB5 hO3 hS3 hW2 hQ2 bely2 hW6 hQ6 hS1 hX6 c0 c1n c34 lQ bel6
            unfold Pause
            have hlf : (bs ++ encT x).length = n + 8 := by rw [List.length_append, HN.out, HE.out, put_length]
            have hel2 : (bs ++ encT x).length ≤ 30000 := by rw [List.length_append]; have := HBL.out; have := encT_len x HOK.out.h_; omega
            have HLF := Lib.hid hlf; clear hlf
            go_wp2_with fail
            refine (wBytes_any w.heap.size W p1 c1 (bs ++ encT x) y3 hWf (by omega)).mono ?_
            rintro e z1 ⟨⟨q9, c9, rfl, hO9⟩, hB9⟩
            have hWg := hWf.old hB9
            have hOg := hOf.below hB9
            have belg : Below w.heap.size w z1 := below_step belf belf.size hB9
            clear hWf hOf hB9 belf
            rw [HLF.out]
            go_wp2_with fail
            refine (same_at (bs ++ encT x) (bs ++ encT x) q9 q3 c9 qc3 _ _ (by rw [HLF.out]) (by rw [HLF.out]) z1 hO9.rd hOg.rd (by omega) (by omega)).mono ?_
            rw [decide_eq_true (rfl : bs ++ encT x = bs ++ encT x)]
            rintro e z2 ⟨rfl, hB2⟩
            have hWh := hWg.old hB2
            have hOh := hOg.below hB2
            have belh : Below w.heap.size w z2 := below_step belg belg.size hB2
            clear hWg hOg hO9 hB2 belg
            go_wp2_with fail
            go_roundw
            case rel => exact ⟨⟨k + 1, by omega, by go_num, p1, c1, q3, qc3, n + 8, rfl, by rw [HBN.out, HLF.out], by rw [HBN.out]; exact hWh, by rw [HBN.out]; exact hOh, hSf⟩, belh⟩
            case measure => simp [intOf]; omega
        by_cases k3 : x.kind = 3
        ·   have HE : Hid (encT x = x.h) := Lib.hid (by unfold encT; rw [if_neg k0, if_neg k1, if_neg k2, if_pos k3])
            have HO : okT x = true := by unfold okT; rw [k3]; rfl
            rw [k3] at H0
            clear k0 k1 k2 k3
            go_wp2_with (first
              | ((with_reducible refine at_slot 21 ?_); (refine arm_indexN (o := ⟨some 21, _, _, _, _, _⟩) rfl _ _ _ rfl 33 36 (by kernel_rfl) (by kernel_rfl) g o _ _ rfl .i64 k rfl hlt ?_))
              | ((with_reducible refine at_slot 22 ?_); (refine arm_load (o := ⟨some 22, _, _, _, _, _⟩) rfl _ _ rfl g (o + k * 36) rfl tc hrw (by rw [HTL.out]; exact sz_thing) ?_))
              | ((with_reducible refine at_slot 6 ?_); (refine arm_alloc (o := ⟨some 6, _, _, _, _, _⟩) rfl _ rfl zcells z_thing ?_); intro X w4 hXe hR4 hN4)
              | ((with_reducible refine arm_store (o := ⟨none, _, _, _, _, _⟩) rfl _ _ _ rfl X 0 rfl tc rfl _ _ hR4 (by rw [HTL.out, zcells_len]; omega) HT1.out (by rw [HTL.out]; exact sz_thing) ?_); intro w5 hR5 hO5 hS5; have hX5 := hR5.congr (lay_all _ _ (by rw [HTL.out, zcells_len])))
              | ((with_reducible refine at_slot 24 ?_); (refine arm_load (o := ⟨some 24, _, _, _, _, _⟩) rfl _ _ rfl X 0 rfl tc (hX5.range 0 _ (fun j v hj => by rw [Nat.zero_add]; exact hj)) (by rw [HTL.out]; exact sz_thing) ?_)))
            have eX := hXe.out
            have bel5 : Below wr.heap.size wr w5 := below_only hN4.below hO5 (by omega) hN4.below.size
            have bel05 : Below w.heap.size w w5 := below_step hbel hbel.size bel5
            have hW5 := hWr.old bel5
            have hQ5 := hOwn.below bel5
            have HXW : Hid (X ≠ W) := Lib.hid (by have := hWr.lt; omega)
            have HXQ : Hid (blk q ≠ some X) := Lib.hid (fun e => by have := (own_blk hOwn e).2.1; omega)
            clear eX hXe hR4 hN4 hR5 hO5 hS5 hrw hWr hOwn hbel bel5
            have hcall := write_any x w.heap.size W p cap _ w5 hW5 bel05.size (by have := HBL.out; omega) (HOK.out.below bel05) (sep_old HOK.out hW5.own)
            rw [← HTC.out, HO] at hcall
            refine hcall.mono ?_
            clear hcall
            rintro e w6 ⟨rfl, p1, c1, hW6, hS6⟩
            have hX6 := row_step hX5 hW5 hS6 HXW.out
            have hQ6 := own_step hQ5 hS6 hsep (fun j hj => by rw [← Option.some.inj hj]; exact row_not_own hW5.row (by decide) hQ5)
            have hS1 := hsep.next hS6 hQ5
            have bel6 : Below w.heap.size w w6 := bel05.trans (hW5.below hS6 bel05.size)
            have c0 := hX6.cell H0.out
            have c1n := hX6.cell H1.out
            have c34 := hX6.cell H34.out
            have lQ := own_low hQ6
            clear hX5 hW5 hQ5 hS6 bel05
            have hrx := tcells_hash (hX6.congr HTC.out)
            go_wp2_with (first
              | ((with_reducible refine at_slot 56 ?_); (refine arm_sliceAll (o := ⟨some 56, _, _, _, _, _⟩) rfl _ _ rfl 32 5 (by kernel_rfl) (by kernel_rfl) X 2 rfl (by omega) ?_))
              | ((with_reducible refine at_slot 57 ?_); (refine arm_append2 (o := ⟨some 57, _, _, _, _, _⟩) rfl _ _ rfl w.heap.size q n qc bs HN.out rfl hQ6 (some ⟨X, 2, none⟩) 32 32 x.h rfl HOK.out.h_.symm (fun h => by cases h) (fun _ => ⟨X, 2, rfl, hrx⟩) (by rw [HOK.out.h_]; have := HBL.out; omega) bel6.size ?_); intro q3 qc3 y3 hO3 hS3; refine pause ?_))
            have hW2 := hW6.old (Below.refl _ _)
            have hQ2 := hQ6.below (Below.refl _ _)
            have bely2 : Below w.heap.size w w6 := below_step bel6 bel6.size (Below.refl _ _)
            have hWf : Wr y3 w.heap.size W p1 c1 (bs ++ encT x) := wr_beside hW2 hQ2 hS3 hS1.symm
            have hOf : Own y3 w.heap.size q3 qc3 (bs ++ encT x) := by rw [HE.out]; exact hO3
            have hSf : Sep p1 q3 := (hS1.symm.next hS3 hW2.own).symm
            have belf : Below w.heap.size w y3 := bely2.trans (hS3.below (fun j hj => by cases hj) lQ bely2.size)
            clear hO3 hS3 hW2 hQ2 bely2 hW6 hQ6 hS1 hX6 c0 c1n c34 lQ bel6 hrx
            unfold Pause
            have hlf : (bs ++ encT x).length = n + 32 := by rw [List.length_append, HN.out, HE.out, HOK.out.h_]
            have hel2 : (bs ++ encT x).length ≤ 30000 := by rw [List.length_append]; have := HBL.out; have := encT_len x HOK.out.h_; omega
            have HLF := Lib.hid hlf; clear hlf
            go_wp2_with fail
            refine (wBytes_any w.heap.size W p1 c1 (bs ++ encT x) y3 hWf (by omega)).mono ?_
            rintro e z1 ⟨⟨q9, c9, rfl, hO9⟩, hB9⟩
            have hWg := hWf.old hB9
            have hOg := hOf.below hB9
            have belg : Below w.heap.size w z1 := below_step belf belf.size hB9
            clear hWf hOf hB9 belf
            rw [HLF.out]
            go_wp2_with fail
            refine (same_at (bs ++ encT x) (bs ++ encT x) q9 q3 c9 qc3 _ _ (by rw [HLF.out]) (by rw [HLF.out]) z1 hO9.rd hOg.rd (by omega) (by omega)).mono ?_
            rw [decide_eq_true (rfl : bs ++ encT x = bs ++ encT x)]
            rintro e z2 ⟨rfl, hB2⟩
            have hWh := hWg.old hB2
            have hOh := hOg.below hB2
            have belh : Below w.heap.size w z2 := below_step belg belg.size hB2
            clear hWg hOg hO9 hB2 belg
            go_wp2_with fail
            go_roundw
            case rel => exact ⟨⟨k + 1, by omega, by go_num, p1, c1, q3, qc3, n + 32, rfl, by rw [HBN.out, HLF.out], by rw [HBN.out]; exact hWh, by rw [HBN.out]; exact hOh, hSf⟩, belh⟩
            case measure => simp [intOf]; omega
        by_cases k4 : x.kind = 4
        · have HE : Hid (encT x = txt x.b) := Lib.hid (by unfold encT; rw [if_neg k0, if_neg k1, if_neg k2, if_neg k3, if_pos k4])
          by_cases hsh : x.b.length ≤ 255
          ·
            have HO : okT x = true := by unfold okT; rw [k4, decide_eq_false (by omega : ¬ 255 < x.b.length)]; rfl
            rw [k4] at H0
            clear k0 k1 k2 k3 k4
            go_wp2_with (first
              | ((with_reducible refine at_slot 21 ?_); (refine arm_indexN (o := ⟨some 21, _, _, _, _, _⟩) rfl _ _ _ rfl 33 36 (by kernel_rfl) (by kernel_rfl) g o _ _ rfl .i64 k rfl hlt ?_))
              | ((with_reducible refine at_slot 22 ?_); (refine arm_load (o := ⟨some 22, _, _, _, _, _⟩) rfl _ _ rfl g (o + k * 36) rfl tc hrw (by rw [HTL.out]; exact sz_thing) ?_))
              | ((with_reducible refine at_slot 6 ?_); (refine arm_alloc (o := ⟨some 6, _, _, _, _, _⟩) rfl _ rfl zcells z_thing ?_); intro X w4 hXe hR4 hN4)
              | ((with_reducible refine arm_store (o := ⟨none, _, _, _, _, _⟩) rfl _ _ _ rfl X 0 rfl tc rfl _ _ hR4 (by rw [HTL.out, zcells_len]; omega) HT1.out (by rw [HTL.out]; exact sz_thing) ?_); intro w5 hR5 hO5 hS5; have hX5 := hR5.congr (lay_all _ _ (by rw [HTL.out, zcells_len])))
              | ((with_reducible refine at_slot 24 ?_); (refine arm_load (o := ⟨some 24, _, _, _, _, _⟩) rfl _ _ rfl X 0 rfl tc (hX5.range 0 _ (fun j v hj => by rw [Nat.zero_add]; exact hj)) (by rw [HTL.out]; exact sz_thing) ?_)))
            have eX := hXe.out
            have bel5 : Below wr.heap.size wr w5 := below_only hN4.below hO5 (by omega) hN4.below.size
            have bel05 : Below w.heap.size w w5 := below_step hbel hbel.size bel5
            have hW5 := hWr.old bel5
            have hQ5 := hOwn.below bel5
            have HXW : Hid (X ≠ W) := Lib.hid (by have := hWr.lt; omega)
            have HXQ : Hid (blk q ≠ some X) := Lib.hid (fun e => by have := (own_blk hOwn e).2.1; omega)
            clear eX hXe hR4 hN4 hR5 hO5 hS5 hrw hWr hOwn hbel bel5
            have hcall := write_any x w.heap.size W p cap _ w5 hW5 bel05.size (by have := HBL.out; omega) (HOK.out.below bel05) (sep_old HOK.out hW5.own)
            rw [← HTC.out, HO] at hcall
            refine hcall.mono ?_
            clear hcall
            rintro e w6 ⟨rfl, p1, c1, hW6, hS6⟩
            have hX6 := row_step hX5 hW5 hS6 HXW.out
            have hQ6 := own_step hQ5 hS6 hsep (fun j hj => by rw [← Option.some.inj hj]; exact row_not_own hW5.row (by decide) hQ5)
            have hS1 := hsep.next hS6 hQ5
            have bel6 : Below w.heap.size w w6 := bel05.trans (hW5.below hS6 bel05.size)
            have c0 := hX6.cell H0.out
            have c1n := hX6.cell H1.out
            have c34 := hX6.cell H34.out
            have lQ := own_low hQ6
            clear hX5 hW5 hQ5 hS6 bel05
            go_wp2_with fail
            have hct := txt_any x.b x.bp x.bc w6 (HOK.out.came.below bel6).rd (fun e => ⟨by have h1 := HOK.out.came.nil_ e; have h2 := HOK.out.came.cap_; omega, HOK.out.came.nil_ e⟩) (by unfold maxLen; omega)
            refine hct.mono ?_
            clear hct
            rintro e y2 ⟨⟨q5, c5, rfl, hO5⟩, hB5⟩
            rw [decide_eq_true hsh]
            generalize htx : txt x.b = tx at hO5 HE
            have HTX := Lib.hid htx; clear htx
            have htl : tx.length ≤ 256 := by rw [← HTX.out]; exact txt_len _
            clear hsh
            go_wp2_with (first
              | ((with_reducible refine at_slot 68 ?_); (refine arm_append2 (o := ⟨some 68, _, _, _, _, _⟩) rfl _ _ rfl w.heap.size q n qc bs HN.out rfl (hQ6.below hB5) q5 tx.length c5 tx rfl rfl (own_none hO5) hO5.bytes (by have := HBL.out; omega) (by have := bel6.size; have := hB5.size; omega) ?_); intro q3 qc3 y3 hO3 hS3; refine pause ?_))
            have hW2 := hW6.old hB5
            have hQ2 := hQ6.below hB5
            have bely2 : Below w.heap.size w y2 := below_step bel6 bel6.size hB5
            have hWf : Wr y3 w.heap.size W p1 c1 (bs ++ encT x) := wr_beside hW2 hQ2 hS3 hS1.symm
            have hOf : Own y3 w.heap.size q3 qc3 (bs ++ encT x) := by rw [HE.out]; exact hO3
            have hSf : Sep p1 q3 := (hS1.symm.next hS3 hW2.own).symm
            have belf : Below w.heap.size w y3 := bely2.trans (hS3.below (fun j hj => by cases hj) lQ bely2.size)
            clear hO5 hB5 hO3 hS3 hW2 hQ2 bely2 hW6 hQ6 hS1 hX6 c0 c1n c34 lQ bel6
            unfold Pause
            have hlf : (bs ++ encT x).length = n + tx.length := by rw [List.length_append, HN.out, HE.out]
            have hel2 : (bs ++ encT x).length ≤ 30000 := by rw [List.length_append]; have := HBL.out; have := encT_len x HOK.out.h_; omega
            have HLF := Lib.hid hlf; clear hlf
            go_wp2_with fail
            refine (wBytes_any w.heap.size W p1 c1 (bs ++ encT x) y3 hWf (by omega)).mono ?_
            rintro e z1 ⟨⟨q9, c9, rfl, hO9⟩, hB9⟩
            have hWg := hWf.old hB9
            have hOg := hOf.below hB9
            have belg : Below w.heap.size w z1 := below_step belf belf.size hB9
            clear hWf hOf hB9 belf
            rw [HLF.out]
            go_wp2_with fail
            refine (same_at (bs ++ encT x) (bs ++ encT x) q9 q3 c9 qc3 _ _ (by rw [HLF.out]) (by rw [HLF.out]) z1 hO9.rd hOg.rd (by omega) (by omega)).mono ?_
            rw [decide_eq_true (rfl : bs ++ encT x = bs ++ encT x)]
            rintro e z2 ⟨rfl, hB2⟩
            have hWh := hWg.old hB2
            have hOh := hOg.below hB2
            have belh : Below w.heap.size w z2 := below_step belg belg.size hB2
            clear hWg hOg hO9 hB2 belg
            go_wp2_with fail
            go_roundw
            case rel => exact ⟨⟨k + 1, by omega, by go_num, p1, c1, q3, qc3, n + tx.length, rfl, by rw [HBN.out, HLF.out], by rw [HBN.out]; exact hWh, by rw [HBN.out]; exact hOh, hSf⟩, belh⟩
            case measure => simp [intOf]; omega
          ·
            have HO : okT x = false := by unfold okT; rw [k4, decide_eq_true (by omega : 255 < x.b.length)]; rfl
            rw [k4] at H0
            clear k0 k1 k2 k3 k4
            go_wp2_with (first
              | ((with_reducible refine at_slot 21 ?_); (refine arm_indexN (o := ⟨some 21, _, _, _, _, _⟩) rfl _ _ _ rfl 33 36 (by kernel_rfl) (by kernel_rfl) g o _ _ rfl .i64 k rfl hlt ?_))
              | ((with_reducible refine at_slot 22 ?_); (refine arm_load (o := ⟨some 22, _, _, _, _, _⟩) rfl _ _ rfl g (o + k * 36) rfl tc hrw (by rw [HTL.out]; exact sz_thing) ?_))
              | ((with_reducible refine at_slot 6 ?_); (refine arm_alloc (o := ⟨some 6, _, _, _, _, _⟩) rfl _ rfl zcells z_thing ?_); intro X w4 hXe hR4 hN4)
              | ((with_reducible refine arm_store (o := ⟨none, _, _, _, _, _⟩) rfl _ _ _ rfl X 0 rfl tc rfl _ _ hR4 (by rw [HTL.out, zcells_len]; omega) HT1.out (by rw [HTL.out]; exact sz_thing) ?_); intro w5 hR5 hO5 hS5; have hX5 := hR5.congr (lay_all _ _ (by rw [HTL.out, zcells_len])))
              | ((with_reducible refine at_slot 24 ?_); (refine arm_load (o := ⟨some 24, _, _, _, _, _⟩) rfl _ _ rfl X 0 rfl tc (hX5.range 0 _ (fun j v hj => by rw [Nat.zero_add]; exact hj)) (by rw [HTL.out]; exact sz_thing) ?_)))
            have eX := hXe.out
            have bel5 : Below wr.heap.size wr w5 := below_only hN4.below hO5 (by omega) hN4.below.size
            have bel05 : Below w.heap.size w w5 := below_step hbel hbel.size bel5
            have hW5 := hWr.old bel5
            have hQ5 := hOwn.below bel5
            have HXW : Hid (X ≠ W) := Lib.hid (by have := hWr.lt; omega)
            have HXQ : Hid (blk q ≠ some X) := Lib.hid (fun e => by have := (own_blk hOwn e).2.1; omega)
            clear eX hXe hR4 hN4 hR5 hO5 hS5 hrw hWr hOwn hbel bel5
            have hcall := write_any x w.heap.size W p cap _ w5 hW5 bel05.size (by have := HBL.out; omega) (HOK.out.below bel05) (sep_old HOK.out hW5.own)
            rw [← HTC.out, HO] at hcall
            refine hcall.mono ?_
            clear hcall
            rintro e w6 ⟨rfl, p1, c1, hW6, hS6⟩
            have hX6 := row_step hX5 hW5 hS6 HXW.out
            have hQ6 := own_step hQ5 hS6 hsep (fun j hj => by rw [← Option.some.inj hj]; exact row_not_own hW5.row (by decide) hQ5)
            have hS1 := hsep.next hS6 hQ5
            have bel6 : Below w.heap.size w w6 := bel05.trans (hW5.below hS6 bel05.size)
            have c0 := hX6.cell H0.out
            have c1n := hX6.cell H1.out
            have c34 := hX6.cell H34.out
            have lQ := own_low hQ6
            clear hX5 hW5 hQ5 hS6 bel05
            go_wp2_with fail
            have hct := txt_any x.b x.bp x.bc w6 (HOK.out.came.below bel6).rd (fun e => ⟨by have h1 := HOK.out.came.nil_ e; have h2 := HOK.out.came.cap_; omega, HOK.out.came.nil_ e⟩) (by unfold maxLen; omega)
            refine hct.mono ?_
            clear hct
            rintro e y2 ⟨⟨q5, c5, rfl, hO5⟩, hB5⟩
            rw [decide_eq_false hsh]
            generalize htx : txt x.b = tx at hO5 HE
            have HTX := Lib.hid htx; clear htx
            have htl : tx.length ≤ 256 := by rw [← HTX.out]; exact txt_len _
            clear hsh
            go_wp2_with (first
              | ((with_reducible refine at_slot 68 ?_); (refine arm_append2 (o := ⟨some 68, _, _, _, _, _⟩) rfl _ _ rfl w.heap.size q n qc bs HN.out rfl (hQ6.below hB5) q5 tx.length c5 tx rfl rfl (own_none hO5) hO5.bytes (by have := HBL.out; omega) (by have := bel6.size; have := hB5.size; omega) ?_); intro q3 qc3 y3 hO3 hS3; refine pause ?_))
            have hW2 := hW6.old hB5
            have hQ2 := hQ6.below hB5
            have bely2 : Below w.heap.size w y2 := below_step bel6 bel6.size hB5
            have hWf : Wr y3 w.heap.size W p1 c1 (bs ++ encT x) := wr_beside hW2 hQ2 hS3 hS1.symm
            have hOf : Own y3 w.heap.size q3 qc3 (bs ++ encT x) := by rw [HE.out]; exact hO3
            have hSf : Sep p1 q3 := (hS1.symm.next hS3 hW2.own).symm
            have belf : Below w.heap.size w y3 := bely2.trans (hS3.below (fun j hj => by cases hj) lQ bely2.size)
            clear hO5 hB5 hO3 hS3 hW2 hQ2 bely2 hW6 hQ6 hS1 hX6 c0 c1n c34 lQ bel6
            unfold Pause
            have hlf : (bs ++ encT x).length = n + tx.length := by rw [List.length_append, HN.out, HE.out]
            have hel2 : (bs ++ encT x).length ≤ 30000 := by rw [List.length_append]; have := HBL.out; have := encT_len x HOK.out.h_; omega
            have HLF := Lib.hid hlf; clear hlf
            go_wp2_with fail
            refine (wBytes_any w.heap.size W p1 c1 (bs ++ encT x) y3 hWf (by omega)).mono ?_
            rintro e z1 ⟨⟨q9, c9, rfl, hO9⟩, hB9⟩
            have hWg := hWf.old hB9
            have hOg := hOf.below hB9
            have belg : Below w.heap.size w z1 := below_step belf belf.size hB9
            clear hWf hOf hB9 belf
            rw [HLF.out]
            go_wp2_with fail
            refine (same_at (bs ++ encT x) (bs ++ encT x) q9 q3 c9 qc3 _ _ (by rw [HLF.out]) (by rw [HLF.out]) z1 hO9.rd hOg.rd (by omega) (by omega)).mono ?_
            rw [decide_eq_true (rfl : bs ++ encT x = bs ++ encT x)]
            rintro e z2 ⟨rfl, hB2⟩
            have hWh := hWg.old hB2
            have hOh := hOg.below hB2
            have belh : Below w.heap.size w z2 := below_step belg belg.size hB2
            clear hWg hOg hO9 hB2 belg
            go_wp2_with fail
            go_roundw
            case rel => exact ⟨⟨k + 1, by omega, by go_num, p1, c1, q3, qc3, n + tx.length, rfl, by rw [HBN.out, HLF.out], by rw [HBN.out]; exact hWh, by rw [HBN.out]; exact hOh, hSf⟩, belh⟩
            case measure => simp [intOf]; omega
        ·   have HE : Hid (encT x = []) := Lib.hid (by unfold encT; rw [if_neg k0, if_neg k1, if_neg k2, if_neg k3, if_neg k4])
            have HO : okT x = true := by unfold okT; rw [decide_eq_false k4]; rfl
            have e0 : (x.kind == 0) = false := beq_eq_false_iff_ne.2 k0
            have e1 : (x.kind == 1) = false := beq_eq_false_iff_ne.2 k1
            have e2 : (x.kind == 2) = false := beq_eq_false_iff_ne.2 k2
            have e3 : (x.kind == 3) = false := beq_eq_false_iff_ne.2 k3
            have e4 : (x.kind == 4) = false := beq_eq_false_iff_ne.2 k4
            clear k0 k1 k2 k3 k4
            go_wp2_with (first
              | ((with_reducible refine at_slot 21 ?_); (refine arm_indexN (o := ⟨some 21, _, _, _, _, _⟩) rfl _ _ _ rfl 33 36 (by kernel_rfl) (by kernel_rfl) g o _ _ rfl .i64 k rfl hlt ?_))
              | ((with_reducible refine at_slot 22 ?_); (refine arm_load (o := ⟨some 22, _, _, _, _, _⟩) rfl _ _ rfl g (o + k * 36) rfl tc hrw (by rw [HTL.out]; exact sz_thing) ?_))
              | ((with_reducible refine at_slot 6 ?_); (refine arm_alloc (o := ⟨some 6, _, _, _, _, _⟩) rfl _ rfl zcells z_thing ?_); intro X w4 hXe hR4 hN4)
              | ((with_reducible refine arm_store (o := ⟨none, _, _, _, _, _⟩) rfl _ _ _ rfl X 0 rfl tc rfl _ _ hR4 (by rw [HTL.out, zcells_len]; omega) HT1.out (by rw [HTL.out]; exact sz_thing) ?_); intro w5 hR5 hO5 hS5; have hX5 := hR5.congr (lay_all _ _ (by rw [HTL.out, zcells_len])))
              | ((with_reducible refine at_slot 24 ?_); (refine arm_load (o := ⟨some 24, _, _, _, _, _⟩) rfl _ _ rfl X 0 rfl tc (hX5.range 0 _ (fun j v hj => by rw [Nat.zero_add]; exact hj)) (by rw [HTL.out]; exact sz_thing) ?_)))
            have eX := hXe.out
            have bel5 : Below wr.heap.size wr w5 := below_only hN4.below hO5 (by omega) hN4.below.size
            have bel05 : Below w.heap.size w w5 := below_step hbel hbel.size bel5
            have hW5 := hWr.old bel5
            have hQ5 := hOwn.below bel5
            have HXW : Hid (X ≠ W) := Lib.hid (by have := hWr.lt; omega)
            have HXQ : Hid (blk q ≠ some X) := Lib.hid (fun e => by have := (own_blk hOwn e).2.1; omega)
            clear eX hXe hR4 hN4 hR5 hO5 hS5 hrw hWr hOwn hbel bel5
            have hcall := write_any x w.heap.size W p cap _ w5 hW5 bel05.size (by have := HBL.out; omega) (HOK.out.below bel05) (sep_old HOK.out hW5.own)
            rw [← HTC.out, HO] at hcall
            refine hcall.mono ?_
            clear hcall
            rintro e w6 ⟨rfl, p1, c1, hW6, hS6⟩
            have hX6 := row_step hX5 hW5 hS6 HXW.out
            have hQ6 := own_step hQ5 hS6 hsep (fun j hj => by rw [← Option.some.inj hj]; exact row_not_own hW5.row (by decide) hQ5)
            have hS1 := hsep.next hS6 hQ5
            have bel6 : Below w.heap.size w w6 := bel05.trans (hW5.below hS6 bel05.size)
            have c0 := hX6.cell H0.out
            have c1n := hX6.cell H1.out
            have c34 := hX6.cell H34.out
            have lQ := own_low hQ6
            clear hX5 hW5 hQ5 hS6 bel05
            have hWf : Wr w6 w.heap.size W p1 c1 (bs ++ encT x) := hW6
            have hOf : Own w6 w.heap.size q qc (bs ++ encT x) := by rw [HE.out, List.append_nil]; exact hQ6
            have hSf := hS1
            have belf := bel6
            clear hW6 hQ6 hS1 hX6 c1n c34 lQ bel6
            have hlf : (bs ++ encT x).length = n := by rw [List.length_append, HN.out, HE.out, List.length_nil, Nat.add_zero]
            have hel2 : (bs ++ encT x).length ≤ 30000 := by rw [List.length_append]; have := HBL.out; have := encT_len x HOK.out.h_; omega
            have HLF := Lib.hid hlf; clear hlf
            go_wp2_with fail
            refine (wBytes_any w.heap.size W p1 c1 (bs ++ encT x) w6 hWf (by omega)).mono ?_
            rintro e z1 ⟨⟨q9, c9, rfl, hO9⟩, hB9⟩
            have hWg := hWf.old hB9
            have hOg := hOf.below hB9
            have belg : Below w.heap.size w z1 := below_step belf belf.size hB9
            clear hWf hOf hB9 belf
            rw [HLF.out]
            go_wp2_with fail
            refine (same_at (bs ++ encT x) (bs ++ encT x) q9 q c9 qc _ _ (by rw [HLF.out]) (by rw [HLF.out]) z1 hO9.rd hOg.rd (by omega) (by omega)).mono ?_
            rw [decide_eq_true (rfl : bs ++ encT x = bs ++ encT x)]
            rintro e z2 ⟨rfl, hB2⟩
            have hWh := hWg.old hB2
            have hOh := hOg.below hB2
            have belh : Below w.heap.size w z2 := below_step belg belg.size hB2
            clear hWg hOg hO9 hB2 belg
            go_wp2_with fail
            go_roundw
            case rel => exact ⟨⟨k + 1, by omega, by go_num, p1, c1, q, qc, n, rfl, by rw [HBN.out, HLF.out], by rw [HBN.out]; exact hWh, by rw [HBN.out]; exact hOh, hSf⟩, belh⟩
            case measure => simp [intOf]; omega
      · obtain rfl : k = l.length := by omega
        go_wp2_with fail
        go_ret
        exact ⟨rfl, hbel⟩
end Go.Proofs.Yticdapgfjkhoaaa.Wi
