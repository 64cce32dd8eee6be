/-
  The walk of layer 4's statement WireBack over this seat's translation, out of the contracts: it returns true, and changes nothing that was there.
-/
import Derived.Test.YticdapgfjkhoaaaWireAwake
namespace Go.Proofs.Yticdapgfjkhoaaa.Wi
open Go.ChangeShapes Go.WideShapes Go.ChangeAt Go.RowKit Go.Proofs.Yticdapgfjkhoaaa.Mem Go.Proofs.Yticdapgfjkhoaaa.Bt Go.Proofs.Yticdapgfjkhoaaa.Tg
set_option linter.unusedVariables false
set_option linter.unusedSimpArgs false

theorem getD_mem (l : List Thing) (k : Nat) (h : k < l.length) : l.getD k default ∈ l := by
  rw [List.getD_eq_getElem?_getD, List.getElem?_eq_getElem h]; exact List.getElem_mem h
/-- What came in lies elsewhere than what the call has made. -/
theorem sep_old {w wr : World} {x : Thing} {p : Option Addr} {cap : Nat} {bs : List Nat} (hok : ThingOk w x) (hown : Own wr w.heap.size p cap bs) : x.b ≠ [] → Sep p x.bp := fun hne k hk e => by
  obtain ⟨g, o, e2, hr⟩ := hok.came.at_ hne
  have h1 := (own_blk hown hk).1
  have h2 : g < w.heap.size := range_lt hr (by intro h; apply hne; simpa [u8s] using h)
  rw [e2] at e
  have : g = k := Option.some.inj e
  omega
theorem rdT_left (x : Thing) (s : RS) : (rdT x s).2.1.length ≤ s.1.length := by
  unfold rdT
  split
  · exact takeR_left _ _
  · split
    · exact takeR_left _ _
    · split
      · exact takeR_left _ _
      · split
        · exact takeR_left _ _
        · split
          · show (textR 255 s).2.1.length ≤ _
            unfold textR
            split
            · simp
            · exact Nat.le_trans (takeR_left _ _) (takeR_left _ _)
          · exact Nat.le_refl _
/-- What holds while things are written. -/
structure WbRel (w : World) (W : Nat) (l : List Thing) (i : Value) (wr : World) : Prop where
  ex : ∃ k : Nat, k ≤ l.length ∧ i = .int .i64 k ∧ (∀ j, j < k → okT (l.getD j default) = true) ∧ ∃ p cap, Wr wr w.heap.size W p cap (encs (l.take k))
  bel : Below w.heap.size w wr
/-- What holds while things are read. -/
structure RbRel (w : World) (R d : Nat) (l : List Thing) (f : Nat → RS → Prop) (q : Option Addr) (bs : List Nat) (i : Value) (wr : World) : Prop where
  ex : ∃ k : Nat, k ≤ l.length ∧ i = .int .i64 k ∧ ∃ s, f k s ∧ s.1.length ≤ 900000 ∧ RdAt wr R d s
  rd : Rd wr q bs
  bel : Below w.heap.size w wr

set_option maxHeartbeats 4000000 in
set_option maxRecDepth 100000 in
theorem wireBack_any (l : List Thing) (P : Option Addr) (capL : Nat) (cut : Int) (w : World) (hl : Things w P l) (hm : l.length ≤ maxLen) :
    Calls Try.prog 5 #[.slice P l.length capL, .int .i64 cut] w fun e w' => e = .returned (.bool true) ∧ Below w.heap.size w w' := by
  have HL := Lib.hid hl; have HM := Lib.hid hm
  clear hl hm
  go_enter Try.func5, Try.ntmps5
  go_wp2_with fail
  refine (awake_any w).mono ?_
  rintro e w1 ⟨rfl, h1⟩
  go_wp2_with fail
  refine (large_any l P capL w1 (HL.out.below h1) HM.out).mono ?_
  rintro e w2 ⟨⟨big, rfl, hbig⟩, hB2⟩
  have bel2 : Below w.heap.size w w2 := below_step h1 h1.size hB2
  clear hB2 h1
  cases big with
  | true =>
    go_wp2_with fail
    go_ret
    exact ⟨rfl, bel2⟩
  | false =>
    have HBIG := Lib.hid (hbig rfl)
    have hn100 := (hbig rfl).1
    clear hbig
    go_wp2_with (first
      | ((with_reducible refine at_slot 22 ?_); (refine arm_build (o := ⟨some 22, _, _, _, _, _⟩) rfl _ _ rfl [.slice none 0 0] built_wr ?_))
      | ((with_reducible refine at_slot 23 ?_); (refine arm_box (o := ⟨some 23, _, _, _, _, _⟩) rfl _ _ rfl [.slice none 0 0] rfl ?_); intro W w3 hW hR3 hN3))
    have eW := hW.out
    have h0 : WbRel w W l (.int .i64 0) w3 := ⟨⟨0, by omega, rfl, fun j hj => by omega, none, 0, wr_new hR3 (by have := bel2.size; omega)⟩, below_step bel2 bel2.size hN3.below⟩
    clear eW hW hR3 hN3 bel2
    go_loopw [26] (fun i wr => WbRel w W l i wr) (fun i _ => l.length - (intOf i).toNat)
    case atStart => exact h0
    case round =>
      clear h0
      obtain ⟨⟨k, hk, rfl, hall, p, cap, hWr⟩, hbel⟩ := hrel
      have HA := Lib.hid hall; clear hall
      have hel : (encs (l.take k)).length ≤ 25600 := by
        have h1 := encs_len (l.take k) (fun x hx => (HL.out.mem x (List.mem_of_mem_take hx)).h_)
        rw [List.length_take] at h1; omega
      by_cases hlt : k < l.length
      · obtain ⟨g, o, rfl, hg, hrows⟩ := HL.out.at_ (by omega)
        obtain ⟨hrg, hok⟩ := hrows k hlt
        have hrw := range_block hrg (hbel.block g hg)
        clear hrows hrg
        have hxb : (l.getD k default).b.length ≤ 300 := HBIG.out.2 _ (getD_mem l k hlt)
        obtain ⟨x, hx⟩ : ∃ x, x = l.getD k default := ⟨_, rfl⟩
        rw [← hx] at hrw hok hxb
        have HX := Lib.hid hx; clear hx
        have HTL := Lib.hid (tcells_len hok.h_)
        have HT1 := Lib.hid (tcells_one x)
        obtain ⟨tc, htc⟩ : ∃ tc, tc = tcells x := ⟨_, rfl⟩
        have HTC := Lib.hid htc
        rw [← htc] at hrw HTL HT1
        have HOK := Lib.hid hok; clear htc hok
        have ik : (k : Int) < (l.length : Int) := by omega
        go_wp2_with (first
          | ((with_reducible refine at_slot 28 ?_); (refine arm_indexN (o := ⟨some 28, _, _, _, _, _⟩) rfl _ _ _ rfl 33 36 (by kernel_rfl) (by kernel_rfl) g o _ _ rfl .i64 k rfl hlt ?_))
          | ((with_reducible refine at_slot 29 ?_); (refine arm_load (o := ⟨some 29, _, _, _, _, _⟩) rfl _ _ rfl g (o + k * 36) rfl tc hrw (by rw [HTL.out]; exact sz_thing) ?_))
          | ((with_reducible refine at_slot 7 ?_); (refine arm_alloc (o := ⟨some 7, _, _, _, _, _⟩) rfl _ rfl zcells z_thing ?_); intro X w4 hXe hR4 hN4)
          | ((with_reducible refine arm_store (o := ⟨none, _, _, _, _, _⟩) rfl _ _ _ rfl X 0 rfl tc rfl _ _ hR4 (by rw [HTL.out, zcells_len]; omega) HT1.out (by rw [HTL.out]; exact sz_thing) ?_); intro w5 hR5 hO5 hS5; have hX5 := hR5.congr (lay_all _ _ (by rw [HTL.out, zcells_len])))
          | ((with_reducible refine at_slot 31 ?_); (refine arm_load (o := ⟨some 31, _, _, _, _, _⟩) rfl _ _ rfl X 0 rfl tc (hX5.range 0 _ (fun j v hj => by rw [Nat.zero_add]; exact hj)) (by rw [HTL.out]; exact sz_thing) ?_)))
        have eX := hXe.out
        have bel5 : Below wr.heap.size wr w5 := below_only hN4.below hO5 (by omega) hN4.below.size
        have bel05 : Below w.heap.size w w5 := below_step hbel hbel.size bel5
        clear eX hXe hR4 hN4 hR5 hO5 hS5 hX5 hrw
        have hWr5 := hWr.old bel5
        have hcall := write_any x w.heap.size W p cap _ w5 hWr5 bel05.size (by omega) (HOK.out.below bel05) (sep_old HOK.out hWr.own)
        rw [← HTC.out] at hcall
        refine hcall.mono ?_
        clear hcall
        by_cases hokx : okT x = true
        · rw [hokx]
          rintro e w6 ⟨rfl, p6, c6, hWr6, hS6⟩
          have bel6 : Below w.heap.size w w6 := bel05.trans (hWr5.below hS6 bel05.size)
          clear hWr5 hWr bel5 bel05 hS6
          go_wp2_with fail
          go_roundw
          case rel => exact ⟨⟨k + 1, by omega, by go_num, fun j hj => by
            rcases Nat.lt_or_ge j k with h | h
            · exact HA.out j h
            · obtain rfl : j = k := by omega
              rw [← HX.out]; exact hokx, p6, c6, by rw [encs_take l k hlt, ← HX.out]; exact hWr6⟩, bel6⟩
          case measure => simp [intOf]; omega
        · rw [Bool.eq_false_iff.2 hokx]
          rintro e w6 ⟨rfl, p6, c6, hWr6, hS6⟩
          have bel6 : Below w.heap.size w w6 := bel05.trans (hWr5.below hS6 bel05.size)
          clear hWr5 hWr bel5 bel05 hS6
          go_wp2_with fail
          go_ret
          exact ⟨rfl, bel6⟩
      · obtain rfl : k = l.length := by omega
        rw [List.take_length] at hWr hel
        have HOKS : Hid (∀ j, j < l.length → okT (l.getD j default) = true) := HA
        go_wp2_with fail
        refine (wBytes_any w.heap.size W p cap (encs l) wr hWr (by omega)).mono ?_
        rintro e w7 ⟨⟨q, c, rfl, hO7⟩, hB7⟩
        have bel7 : Below w.heap.size w w7 := below_step hbel hbel.size hB7
        have HQN := Lib.hid (own_none hO7)
        have HQC := Lib.hid hO7.at.1
        have hrd7 := hO7.rd
        clear hB7 hWr hbel hO7 hk hlt
        have HES : Hid (AllLt 256 (encs l)) := Lib.hid (encs_lt l (fun x hx => HL.out.mem x hx))
        go_wp2_with fail
        refine (rNew_any (encs l) q c w7 hrd7 HQN.out (by omega) HES.out).mono ?_
        rintro e w8 ⟨⟨R, d, rfl, hA8, hlR0, _⟩, hB8⟩
        have lR : w.heap.size ≤ R := Nat.le_trans bel7.size hlR0
        have h0 : RbRel w R d l (fun k s => s = (encs (l.drop k), 0)) q (encs l) (.int .i64 0) w8 := ⟨⟨0, by omega, rfl, _, by rw [List.drop_zero], by show (encs l).length ≤ _; omega, hA8⟩, hrd7.below hB8, below_step bel7 bel7.size hB8⟩
        clear hA8 hlR0 hB8 hrd7 bel7 HA
        go_wp2_with fail
        go_loopw [41] (fun i wr => RbRel w R d l (fun k s => s = (encs (l.drop k), 0)) q (encs l) i wr) (fun i _ => l.length - (intOf i).toNat)
        case atStart => exact h0
        case round =>
          clear h0
          obtain ⟨⟨k, hk, rfl, s, hs, hsl, hA⟩, hrd, hbel⟩ := hrel
          have HS := Lib.hid hs; clear hs
          have HSL := Lib.hid hsl; clear hsl
          by_cases hlt : k < l.length
          · obtain ⟨g, o, rfl, hg, hrows⟩ := HL.out.at_ (by omega)
            obtain ⟨hrg, hok⟩ := hrows k hlt
            have hrw := range_block hrg (hbel.block g hg)
            clear hrows hrg
            have hxb : (l.getD k default).b.length ≤ 300 := HBIG.out.2 _ (getD_mem l k hlt)
            obtain ⟨x, hx⟩ : ∃ x, x = l.getD k default := ⟨_, rfl⟩
            rw [← hx] at hrw hok hxb
            have HX := Lib.hid hx; clear hx
            have HTL := Lib.hid (tcells_len hok.h_)
            have HT1 := Lib.hid (tcells_one x)
            obtain ⟨tc, htc⟩ : ∃ tc, tc = tcells x := ⟨_, rfl⟩
            have HTC := Lib.hid htc
            rw [← htc] at hrw HTL HT1
            have HOK := Lib.hid hok; clear htc hok
            have ik : (k : Int) < (l.length : Int) := by omega
            go_wp2_with (first
              | ((with_reducible refine at_slot 43 ?_); (refine arm_indexN (o := ⟨some 43, _, _, _, _, _⟩) rfl _ _ _ rfl 33 36 (by kernel_rfl) (by kernel_rfl) g o _ _ rfl .i64 k rfl hlt ?_))
              | ((with_reducible refine at_slot 44 ?_); (refine arm_load (o := ⟨some 44, _, _, _, _, _⟩) rfl _ _ rfl g (o + k * 36) rfl tc hrw (by rw [HTL.out]; exact sz_thing) ?_))
              | ((with_reducible refine at_slot 11 ?_); (refine arm_alloc (o := ⟨some 11, _, _, _, _, _⟩) rfl _ rfl zcells z_thing ?_); intro X w4 hXe hR4 hN4)
              | ((with_reducible refine arm_store (o := ⟨none, _, _, _, _, _⟩) rfl _ _ _ rfl X 0 rfl tc rfl _ _ hR4 (by rw [HTL.out, zcells_len]; omega) HT1.out (by rw [HTL.out]; exact sz_thing) ?_); intro w5 hR5 hO5 hS5; have hX5 := hR5.congr (lay_all _ _ (by rw [HTL.out, zcells_len])))
              | ((with_reducible refine at_slot 46 ?_); (refine arm_load (o := ⟨some 46, _, _, _, _, _⟩) rfl _ _ rfl X 0 rfl tc (hX5.range 0 _ (fun j v hj => by rw [Nat.zero_add]; exact hj)) (by rw [HTL.out]; exact sz_thing) ?_)))
            have eX := hXe.out
            have bel5 : Below wr.heap.size wr w5 := below_only hN4.below hO5 (by omega) hN4.below.size
            have bel05 : Below w.heap.size w w5 := below_step hbel hbel.size bel5
            clear eX hXe hR4 hN4 hR5 hO5 hS5 hX5 hrw
            have hokx : okT x = true := by rw [HX.out]; exact HOKS.out k hlt
            have hrt : rdT x s = (true, (encs (l.drop (k + 1)), 0)) := by rw [HS.out, encs_drop l k hlt, ← HX.out]; exact rd_back x HOK.out hokx _
            have hcall := read_any x R d s w5 (hA.old bel5) HSL.out (HOK.out.below bel05) (by omega)
            have hln := rdT_left x s
            rw [← HTC.out] at hcall
            rw [hrt] at hcall hln
            refine hcall.mono ?_
            clear hcall hrt hokx
            rintro e w6 ⟨rfl, hA6, hO6⟩
            have bel6 : Below w.heap.size w w6 := below_only bel05 hO6 lR bel05.size
            have hrd6 := (hA.old bel5).keep_rd hO6 (hrd.below bel5)
            clear hA hrd bel5 bel05 hO6
            go_wp2_with fail
            go_roundw
            case rel => exact ⟨⟨k + 1, by omega, by go_num, _, rfl, Nat.le_trans hln HSL.out, hA6⟩, hrd6, bel6⟩
            case measure => simp [intOf]; omega
          · obtain rfl : k = l.length := by omega
            have hs : s = ([], 0) := by rw [HS.out, List.drop_length]; rfl
            subst hs
            go_wp2_with fail
            refine (rEnd_any R d _ wr hA).mono ?_
            rw [show endR ([], 0) = 0 from rfl]
            rintro e w9 ⟨rfl, rfl⟩
            go_wp2_with fail
            refine (rLeft_any R d _ wr hA).mono ?_
            rw [show (([], 0) : RS).1.length = 0 from rfl]
            rintro e w10 ⟨rfl, rfl⟩
            clear hA HS HSL hk hlt
            go_wp2_with (first
              | ((with_reducible refine at_slot 58 ?_); (refine arm_buildSlice (o := ⟨some 58, _, _, _, _, _⟩) rfl 0 _ rfl [] #[] (by simp) bs0 ?_); intro b1 y1 hb1 hR1 hN1)
              | ((with_reducible refine at_slot 60 ?_); (refine arm_append2 (o := ⟨some 60, _, _, _, _, _⟩) rfl _ _ rfl wr.heap.size (some ⟨b1, 0, none⟩) 0 0 [] rfl rfl (own_new hR1 (by have := hb1.out; omega)) q (encs l).length c (encs l) rfl rfl HQN.out (hrd.below hN1.below).at_ (by rw [List.length_nil]; omega) (by have := hN1.below.size; omega) ?_); intro p2 cap2 y2 hO2 hS2)
              | ((with_reducible refine at_slot 61 ?_); (refine arm_buildSlice (o := ⟨some 61, _, _, _, _, _⟩) rfl 1 _ rfl [.int .u8 ((0 : Nat) : Int)] #[(0, .int .u8 ((0 : Nat) : Int))] (by simp [Act.eval]) (bs1 _) ?_); intro b3 y3 hb3 hR3 hN3)
              | ((with_reducible refine at_slot 62 ?_); (refine arm_append2 (o := ⟨some 62, _, _, _, _, _⟩) rfl _ _ rfl wr.heap.size p2 _ cap2 ([] ++ encs l) (by first | rfl | simp) rfl (hO2.below hN3.below) (some ⟨b3, 0, none⟩) 1 1 [0] rfl rfl (fun h => by cases h) (fun _ => ⟨b3, 0, rfl, hR3.range 0 _ (fun j v hj => by rw [Nat.zero_add]; exact hj)⟩) (by rw [List.nil_append, List.length_singleton]; omega) (by have := hN1.below.size; have := hS2.size; have := hN3.below.size; omega) ?_); intro p4 cap4 y4 hO4 hS4))
            have e1 := hb1.out
            have s1 := hN1.below.size; have s2 := hS2.size; have s3 := hN3.below.size
            have byy : Below wr.heap.size wr y4 := ((hN1.below.trans (hS2.below (fun k hk => by cases hk) (fun k hk => by have : b1 = k := Option.some.inj hk; omega) s1)).trans (hN3.below.mono (by omega))).trans (hS4.below (fun k hk => by cases hk) (own_low hO2) (by omega))
            have bel4 : Below w.heap.size w y4 := below_step hbel hbel.size byy
            have hrd4 := hrd.below byy
            have hrdm := hO4.rd
            have HNM := Lib.hid (own_none hO4)
            rw [List.nil_append] at hrdm HNM
            clear hb1 hR1 hN1 hO2 hS2 hb3 hR3 hN3 hO4 hS4 e1 s1 s2 s3 byy hrd hbel
            have hml : (encs l ++ [0]).length = (encs l).length + 1 := by simp
            have hcn := rNew_any (encs l ++ [0]) p4 cap4 y4 hrdm HNM.out (by omega) (append_lt HES.out (fun x hx => by simp at hx; omega))
            rw [hml] at hcn
            refine hcn.mono ?_
            clear hcn
            rintro e y5 ⟨⟨M, dm, rfl, hA5, hlM0, _⟩, hB5⟩
            have lM : w.heap.size ≤ M := Nat.le_trans bel4.size hlM0
            have h0 : RbRel w M dm l (fun k s => s = (encs (l.drop k) ++ [0], 0)) q (encs l) (.int .i64 0) y5 := ⟨⟨0, by omega, rfl, _, by rw [List.drop_zero], by show (encs l ++ [0]).length ≤ _; omega, hA5⟩, hrd4.below hB5, below_step bel4 bel4.size hB5⟩
            clear hA5 hlM0 hB5 hrd4 bel4 hrdm HNM hml
            go_wp2_with fail
            go_loopw [66] (fun i wr => RbRel w M dm l (fun k s => s = (encs (l.drop k) ++ [0], 0)) q (encs l) i wr) (fun i _ => l.length - (intOf i).toNat)
            case atStart => exact h0
            case round =>
              clear h0
              obtain ⟨⟨k, hk, rfl, s, hs, hsl, hA⟩, hrd, hbel⟩ := hrel
              have HS := Lib.hid hs; clear hs
              have HSL := Lib.hid hsl; clear hsl
              by_cases hlt : k < l.length
              · obtain ⟨g, o, rfl, hg, hrows⟩ := HL.out.at_ (by omega)
                obtain ⟨hrg, hok⟩ := hrows k hlt
                have hrw := range_block hrg (hbel.block g hg)
                clear hrows hrg
                have hxb : (l.getD k default).b.length ≤ 300 := HBIG.out.2 _ (getD_mem l k hlt)
                obtain ⟨x, hx⟩ : ∃ x, x = l.getD k default := ⟨_, rfl⟩
                rw [← hx] at hrw hok hxb
                have HX := Lib.hid hx; clear hx
                have HTL := Lib.hid (tcells_len hok.h_)
                have HT1 := Lib.hid (tcells_one x)
                obtain ⟨tc, htc⟩ : ∃ tc, tc = tcells x := ⟨_, rfl⟩
                have HTC := Lib.hid htc
                rw [← htc] at hrw HTL HT1
                have HOK := Lib.hid hok; clear htc hok
                have ik : (k : Int) < (l.length : Int) := by omega
                go_wp2_with (first
                  | ((with_reducible refine at_slot 68 ?_); (refine arm_indexN (o := ⟨some 68, _, _, _, _, _⟩) rfl _ _ _ rfl 33 36 (by kernel_rfl) (by kernel_rfl) g o _ _ rfl .i64 k rfl hlt ?_))
                  | ((with_reducible refine at_slot 69 ?_); (refine arm_load (o := ⟨some 69, _, _, _, _, _⟩) rfl _ _ rfl g (o + k * 36) rfl tc hrw (by rw [HTL.out]; exact sz_thing) ?_))
                  | ((with_reducible refine at_slot 14 ?_); (refine arm_alloc (o := ⟨some 14, _, _, _, _, _⟩) rfl _ rfl zcells z_thing ?_); intro X w4 hXe hR4 hN4)
                  | ((with_reducible refine arm_store (o := ⟨none, _, _, _, _, _⟩) rfl _ _ _ rfl X 0 rfl tc rfl _ _ hR4 (by rw [HTL.out, zcells_len]; omega) HT1.out (by rw [HTL.out]; exact sz_thing) ?_); intro w5 hR5 hO5 hS5; have hX5 := hR5.congr (lay_all _ _ (by rw [HTL.out, zcells_len])))
                  | ((with_reducible refine at_slot 71 ?_); (refine arm_load (o := ⟨some 71, _, _, _, _, _⟩) rfl _ _ rfl X 0 rfl tc (hX5.range 0 _ (fun j v hj => by rw [Nat.zero_add]; exact hj)) (by rw [HTL.out]; exact sz_thing) ?_)))
                have eX := hXe.out
                have bel5 : Below wr.heap.size wr w5 := below_only hN4.below hO5 (by omega) hN4.below.size
                have bel05 : Below w.heap.size w w5 := below_step hbel hbel.size bel5
                clear eX hXe hR4 hN4 hR5 hO5 hS5 hX5 hrw
                have hokx : okT x = true := by rw [HX.out]; exact HOKS.out k hlt
                have hrt : rdT x s = (true, (encs (l.drop (k + 1)) ++ [0], 0)) := by rw [HS.out, encs_drop l k hlt, ← HX.out, List.append_assoc]; exact rd_back x HOK.out hokx _
                have hcall := read_any x M dm s w5 (hA.old bel5) HSL.out (HOK.out.below bel05) (by omega)
                have hln := rdT_left x s
                rw [← HTC.out] at hcall
                rw [hrt] at hcall hln
                refine hcall.mono ?_
                clear hcall hrt hokx
                rintro e w6 ⟨rfl, hA6, hO6⟩
                have bel6 : Below w.heap.size w w6 := below_only bel05 hO6 lM bel05.size
                have hrd6 := (hA.old bel5).keep_rd hO6 (hrd.below bel5)
                clear hA hrd bel5 bel05 hO6
                go_wp2_with fail
                go_roundw
                case rel => exact ⟨⟨k + 1, by omega, by go_num, _, rfl, Nat.le_trans hln HSL.out, hA6⟩, hrd6, bel6⟩
                case measure => simp [intOf]; omega
              · obtain rfl : k = l.length := by omega
                have hs : s = ([0], 0) := by rw [HS.out, List.drop_length]; rfl
                subst hs
                go_wp2_with fail
                refine (rEnd_any M dm _ wr hA).mono ?_
                rw [show endR ([0], 0) = 4 from rfl]
                rintro e w9 ⟨rfl, rfl⟩
                go_wp2_with fail
                refine (rLeft_any M dm _ wr hA).mono ?_
                rw [show (([0], 0) : RS).1.length = 1 from rfl]
                rintro e w10 ⟨rfl, rfl⟩
                clear hA HS HSL hk hlt
                by_cases hcut : cut < 0 ∨ ((encs l).length : Int) ≤ cut
                · rcases hcut with hc1 | hc2
                  · have hd1 : decide (cut < 0) = true := decide_eq_true hc1
                    go_wp2_with fail
                    go_ret
                    exact ⟨rfl, hbel⟩
                  · have hd1 : decide (cut < 0) = false := decide_eq_false (by omega)
                    have hd2 : decide (((encs l).length : Int) ≤ cut) = true := decide_eq_true hc2
                    go_wp2_with fail
                    go_ret
                    exact ⟨rfl, hbel⟩
                · obtain ⟨cn, hcn⟩ : ∃ cn : Nat, cut = (cn : Int) := ⟨cut.toNat, by omega⟩
                  subst hcn
                  have hcl : cn < (encs l).length := by omega
                  have hd1 : decide ((cn : Int) < 0) = false := decide_eq_false (by omega)
                  have hd2 : decide (((encs l).length : Int) ≤ (cn : Int)) = false := decide_eq_false (by omega)
                  clear hcut
                  have hqc := HQC.out
                  go_wp2_with (first
                    | ((with_reducible refine at_slot 92 ?_); (refine arm_headS (o := ⟨some 92, _, _, _, _, _⟩) rfl _ _ _ rfl 5 (by kernel_rfl) (by kernel_rfl) q (encs l).length c rfl .i64 (cn : Int) rfl cn rfl (by omega) ?_)))
                  have htl : ((encs l).take cn).length = cn := by rw [List.length_take]; omega
                  have hcn := rNew_any ((encs l).take cn) q c wr (Rd_take hrd cn) (fun e => by have := HQN.out e; omega) (by omega) (mem_lt_take HES.out cn)
                  rw [htl] at hcn
                  refine hcn.mono ?_
                  clear hcn
                  rintro e y5 ⟨⟨Z, dz, rfl, hA5, hlZ0, _⟩, hB5⟩
                  have lZ : w.heap.size ≤ Z := Nat.le_trans hbel.size hlZ0
                  have h0 : RbRel w Z dz l (Cut l) q (encs l) (.int .i64 0) y5 := ⟨⟨0, by omega, rfl, _, .inr ⟨cn, by rw [List.drop_zero]; exact hcl, by rw [List.drop_zero]⟩, by show ((encs l).take cn).length ≤ _; omega, hA5⟩, hrd.below hB5, below_step hbel hbel.size hB5⟩
                  clear hA5 hlZ0 hB5 hrd hbel hd1 hd2 htl
                  go_wp2_with fail
                  go_loopw [96] (fun i wr => RbRel w Z dz l (Cut l) q (encs l) i wr) (fun i _ => l.length - (intOf i).toNat)
                  case atStart => exact h0
                  case round =>
                    clear h0
                    obtain ⟨⟨k, hk, rfl, s, hs, hsl, hA⟩, hrd, hbel⟩ := hrel
                    have HS := Lib.hid hs; clear hs
                    have HSL := Lib.hid hsl; clear hsl
                    by_cases hlt : k < l.length
                    · obtain ⟨g, o, rfl, hg, hrows⟩ := HL.out.at_ (by omega)
                      obtain ⟨hrg, hok⟩ := hrows k hlt
                      have hrw := range_block hrg (hbel.block g hg)
                      clear hrows hrg
                      have hxb : (l.getD k default).b.length ≤ 300 := HBIG.out.2 _ (getD_mem l k hlt)
                      obtain ⟨x, hx⟩ : ∃ x, x = l.getD k default := ⟨_, rfl⟩
                      rw [← hx] at hrw hok hxb
                      have HX := Lib.hid hx; clear hx
                      have HTL := Lib.hid (tcells_len hok.h_)
                      have HT1 := Lib.hid (tcells_one x)
                      obtain ⟨tc, htc⟩ : ∃ tc, tc = tcells x := ⟨_, rfl⟩
                      have HTC := Lib.hid htc
                      rw [← htc] at hrw HTL HT1
                      have HOK := Lib.hid hok; clear htc hok
                      have ik : (k : Int) < (l.length : Int) := by omega
                      go_wp2_with (first
                        | ((with_reducible refine at_slot 98 ?_); (refine arm_indexN (o := ⟨some 98, _, _, _, _, _⟩) rfl _ _ _ rfl 33 36 (by kernel_rfl) (by kernel_rfl) g o _ _ rfl .i64 k rfl hlt ?_))
                        | ((with_reducible refine at_slot 99 ?_); (refine arm_load (o := ⟨some 99, _, _, _, _, _⟩) rfl _ _ rfl g (o + k * 36) rfl tc hrw (by rw [HTL.out]; exact sz_thing) ?_))
                        | ((with_reducible refine at_slot 17 ?_); (refine arm_alloc (o := ⟨some 17, _, _, _, _, _⟩) rfl _ rfl zcells z_thing ?_); intro X w4 hXe hR4 hN4)
                        | ((with_reducible refine arm_store (o := ⟨none, _, _, _, _, _⟩) rfl _ _ _ rfl X 0 rfl tc rfl _ _ hR4 (by rw [HTL.out, zcells_len]; omega) HT1.out (by rw [HTL.out]; exact sz_thing) ?_); intro w5 hR5 hO5 hS5; have hX5 := hR5.congr (lay_all _ _ (by rw [HTL.out, zcells_len])))
                        | ((with_reducible refine at_slot 101 ?_); (refine arm_load (o := ⟨some 101, _, _, _, _, _⟩) rfl _ _ rfl X 0 rfl tc (hX5.range 0 _ (fun j v hj => by rw [Nat.zero_add]; exact hj)) (by rw [HTL.out]; exact sz_thing) ?_)))
                      have eX := hXe.out
                      have bel5 : Below wr.heap.size wr w5 := below_only hN4.below hO5 (by omega) hN4.below.size
                      have bel05 : Below w.heap.size w w5 := below_step hbel hbel.size bel5
                      clear eX hXe hR4 hN4 hR5 hO5 hS5 hX5 hrw
                      have hokx : okT x = true := by rw [HX.out]; exact HOKS.out k hlt
                      have HN := Lib.hid (HS.out.next hlt (by rw [← HX.out]; exact HOK.out) (by rw [← HX.out]; exact hokx))
                      rw [← HX.out] at HN
                      have hcall := read_any x Z dz s w5 (hA.old bel5) HSL.out (HOK.out.below bel05) (by omega)
                      have HLN := Lib.hid (rdT_left x s)
                      rw [← HTC.out] at hcall
                      refine hcall.mono ?_
                      clear hcall hokx
                      generalize rdT x s = rs at HN HLN
                      rintro e w6 ⟨rfl, hA6, hO6⟩
                      have bel6 : Below w.heap.size w w6 := below_only bel05 hO6 lZ bel05.size
                      have hrd6 := (hA.old bel5).keep_rd hO6 (hrd.below bel5)
                      clear hA hrd bel5 bel05 hO6
                      go_wp2_with fail
                      go_roundw
                      case rel => exact ⟨⟨k + 1, by omega, by go_num, _, HN.out, Nat.le_trans HLN.out HSL.out, hA6⟩, hrd6, bel6⟩
                      case measure => simp [intOf]; omega
                    · obtain rfl : k = l.length := by omega
                      have hs : s = ([], 3) := HS.out.done
                      subst hs
                      go_wp2_with fail
                      refine (rEnd_any Z dz _ wr hA).mono ?_
                      rw [show endR ([], 3) = 3 from rfl]
                      rintro e w9 ⟨rfl, rfl⟩
                      go_wp2_with fail
                      refine (rLeft_any Z dz _ wr hA).mono ?_
                      rw [show (([], 3) : RS).1.length = 0 from rfl]
                      rintro e w10 ⟨rfl, rfl⟩
                      clear hA HS HSL hk hlt
                      go_wp2_with fail
                      go_ret
                      exact ⟨rfl, hbel⟩
end Go.Proofs.Yticdapgfjkhoaaa.Wi
