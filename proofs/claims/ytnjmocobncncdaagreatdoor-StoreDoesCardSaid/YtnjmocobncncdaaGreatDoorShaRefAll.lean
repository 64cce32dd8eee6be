import Derived.Test.YtnjmocobncncdaaGreatDoorShaAll
import Derived.Test.YtnjmocobncncdaaGreatDoorMemAll
/-
  The contracts of the document's answers for turned numbers and for xor, over this seat's translation.
-/
namespace Go.Proofs.YtnjmocobncncdaaGreatDoor.Sha
open Go.ChangeShapes Go.WideShapes Go.ChangeAt Go.RowKit Go.Proofs.YtnjmocobncncdaaGreatDoor.Num Go.Proofs.YtnjmocobncncdaaGreatDoor.Mem Go.Proofs.YtnjmocobncncdaaGreatDoor.Bt
set_option linter.unusedVariables false

theorem refTurn_any (n : Nat) (c : Int) (w : World) (hn : n < 4294967296) (h2 : 0 ≤ c) (h3 : c ≤ 31) :
    Calls Tryz.prog 89 #[.int .u32 (n : Int), .int .i64 c] w fun e w' => e = .returned (.int .u32 ((rotr c.toNat n : Nat) : Int)) ∧ w = w' := by
  obtain ⟨m, rfl⟩ : ∃ m : Nat, c = (m : Int) := ⟨c.toNat, by omega⟩
  have hm31 : m ≤ 31 := by omega
  clear h2 h3
  rw [Int.toNat_natCast]
  have hs : ((m : Int) + 32) % 32 = (m : Int) := by omega
  have hs0 : (m : Int) % 32 = (m : Int) := by omega
  have e := turn_rotr n m hm31
  have HE := Lib.hid e; clear e
  go_enter Tryz.func89, Tryz.ntmps89
  go_wp2
  go_loop [0, 6, 7] (fun u i _ => ∃ k : Nat, k ≤ m ∧ i = .int .i64 k ∧ u = .int .u32 (rotN k (n : Int))) (fun _ i _ => m - (intOf i).toNat)
  case atStart => exact ⟨0, Nat.zero_le _, rfl, rfl⟩
  case round =>
    obtain ⟨k, hk, rfl, rfl⟩ := hrel
    obtain ⟨hb0, hb1⟩ := rotN_bd k (n : Int) (by omega) (by omega)
    have hs1 : Hid (rotN (k + 1) (n : Int) = rotN k (n : Int) / 2 + 2147483648 * (rotN k (n : Int) % 2)) := Lib.hid rfl
    by_cases hlt : k < m
    · go_wp2
      go_round
      case rel => exact ⟨k + 1, by omega, by go_num, by rw [hs1.out]⟩
      case measure => simp [intOf]; omega
    · obtain rfl : k = m := by omega
      go_wp2
      go_ret
      exact ⟨ret_u32 HE.out, rfl⟩
theorem refXor_any (x y z : Nat) (w : World) (hx : x < 4294967296) (hy : y < 4294967296) (hz : z < 4294967296) :
    Calls Tryz.prog 88 #[.int .u32 (x : Int), .int .u32 (y : Int), .int .u32 (z : Int)] w fun e w' => e = .returned (.int .u32 ((x ^^^ y ^^^ z : Nat) : Int)) ∧ w = w' := by
  go_enter Tryz.func88, Tryz.ntmps88
  go_wp2
  go_ret
  exact ⟨ret_u32 (xor3_plain x y z hx hy hz), rfl⟩
end Go.Proofs.YtnjmocobncncdaaGreatDoor.Sha

/-
  The contract of the document's answer for one block (block), over this seat's translation: the eight numbers behind it.
-/
namespace Go.Proofs.YtnjmocobncncdaaGreatDoor.Sha
open Go.ChangeShapes Go.WideShapes Go.ChangeAt Go.RowKit Go.Proofs.YtnjmocobncncdaaGreatDoor.Num Go.Proofs.YtnjmocobncncdaaGreatDoor.Mem Go.Proofs.YtnjmocobncncdaaGreatDoor.Bt
set_option linter.unusedVariables false

theorem refSm0 (x : Nat) (w : World) (h : x < 4294967296) : Calls Tryz.prog 88 #[.int .u32 ((rotr 7 x : Nat) : Int), .int .u32 ((rotr 18 x : Nat) : Int), .int .u32 ((x : Int) / 8)] w fun e w' => e = .returned (.int .u32 ((sm0 x : Nat) : Int)) ∧ w = w' := by
  rw [show ((x : Int) / 8) = ((x / 8 : Nat) : Int) from by omega]
  exact refXor_any _ _ _ w (rotr_lt x 7 (by omega) h) (rotr_lt x 18 (by omega) h) (by omega)
theorem refSm1 (x : Nat) (w : World) (h : x < 4294967296) : Calls Tryz.prog 88 #[.int .u32 ((rotr 17 x : Nat) : Int), .int .u32 ((rotr 19 x : Nat) : Int), .int .u32 ((x : Int) / 1024)] w fun e w' => e = .returned (.int .u32 ((sm1 x : Nat) : Int)) ∧ w = w' := by
  rw [show ((x : Int) / 1024) = ((x / 1024 : Nat) : Int) from by omega]
  exact refXor_any _ _ _ w (rotr_lt x 17 (by omega) h) (rotr_lt x 19 (by omega) h) (by omega)
theorem refBg0 (x : Nat) (w : World) (h : x < 4294967296) : Calls Tryz.prog 88 #[.int .u32 ((rotr 2 x : Nat) : Int), .int .u32 ((rotr 13 x : Nat) : Int), .int .u32 ((rotr 22 x : Nat) : Int)] w fun e w' => e = .returned (.int .u32 ((bg0 x : Nat) : Int)) ∧ w = w' :=
  refXor_any _ _ _ w (rotr_lt x 2 (by omega) h) (rotr_lt x 13 (by omega) h) (rotr_lt x 22 (by omega) h)
theorem refBg1 (x : Nat) (w : World) (h : x < 4294967296) : Calls Tryz.prog 88 #[.int .u32 ((rotr 6 x : Nat) : Int), .int .u32 ((rotr 11 x : Nat) : Int), .int .u32 ((rotr 25 x : Nat) : Int)] w fun e w' => e = .returned (.int .u32 ((bg1 x : Nat) : Int)) ∧ w = w' :=
  refXor_any _ _ _ w (rotr_lt x 6 (by omega) h) (rotr_lt x 11 (by omega) h) (rotr_lt x 25 (by omega) h)
/-- The zeros of a composite value. -/
def zW : List Value := u32s (List.replicate 64 0)
theorem zW_len : zW.length = 64 := by unfold zW; rw [u32s_length, List.length_replicate]
theorem zW_one : OneCells zW := u32s_one _
/-- What holds in block's loops. -/
structure BlRel (w : World) (s : S8) (bs : List Nat) (g o B2 B4 B5 : Nat) (ws : List Nat) (wr : World) : Prop where
  r2 : Row wr B2 142 (u32s s.list)
  r4 : Row wr B4 142 (u32s (List.replicate 8 0))
  r5 : Row wr B5 162 (u32s (fillW ws))
  rb : wr.rangeAt g o (u8s bs)
  rk : wr.rangeAt 0 0 (u32s ks)
  bel : Below w.heap.size w wr
theorem BlRel.drewN {w : World} {s : S8} {bs : List Nat} {g o B2 B4 B5 : Nat} {ws : List Nat} {wr : World} (h : BlRel w s bs g o B2 B4 B5 ws wr) (n : Nat) : BlRel w s bs g o B2 B4 B5 ws (wr.drewN n) :=
  ⟨h.r2, h.r4, h.r5, h.rb, h.rk, h.bel.trans (below_drewN _ _ _)⟩
theorem BlRel.drew {w : World} {s : S8} {bs : List Nat} {g o B2 B4 B5 : Nat} {ws : List Nat} {wr : World} (h : BlRel w s bs g o B2 B4 B5 ws wr) : BlRel w s bs g o B2 B4 B5 ws wr.drew := h.drewN 1
theorem BlRel.step {w : World} {s : S8} {bs : List Nat} {g o B2 B4 B5 : Nat} {ws : List Nat} {wr : World} (h : BlRel w s bs g o B2 B4 B5 ws wr) (h2 : B2 ≠ B5) (h4 : B4 ≠ B5) (hg : g ≠ B5) (hk : 0 ≠ B5) (h5 : w.heap.size ≤ B5) (hl : ws.length < 64) (x : Nat) (i : Nat) (hi : i = ws.length) :
    BlRel w s bs g o B2 B4 B5 (ws ++ [x]) (wr.setCell ⟨B5, i, none⟩ (.int .u32 (x : Int))) := by
  have hs : w.heap.size ≤ wr.heap.size := h.bel.size
  have hO := Only.setCell B5 i wr (.int .u32 (x : Int))
  refine ⟨h.r2.only hO h2, h.r4.only hO h4, ?_, range_block h.rb (Below.heap_setCell _ _ _ _ hg), range_block h.rk (Below.heap_setCell _ _ _ _ hk), below_only h.bel hO h5 hs⟩
  subst hi
  exact (h.r5.set _).congr (set_fill ws x hl)

theorem slots_rnd2 (a b c d e f g h k w x y1 y2 z u : Nat) (hx : x = bg1 e) (hy : y1 + y2 = chs e f g) (hz : z = bg0 a) (hu : u = mjr a b c) : Slots (rnd ⟨a, b, c, d, e, f, g, h⟩ k w)
    (.int .u32 ((((h : Int) + (x : Int) + ((y1 : Int) + (y2 : Int)) + (k : Int) + (w : Int) + (z : Int)) % 4294967296 + (u : Int)) % 4294967296)) (.int .u32 (a : Int)) (.int .u32 (b : Int)) (.int .u32 (c : Int))
    (.int .u32 (((d : Int) + ((h : Int) + (x : Int) + ((y1 : Int) + (y2 : Int)) + (k : Int) + (w : Int)) % 4294967296) % 4294967296)) (.int .u32 (e : Int)) (.int .u32 (f : Int)) (.int .u32 (g : Int)) := by
  subst hx hz hu
  refine ⟨u32_congr ?_, rfl, rfl, rfl, u32_congr ?_, rfl, rfl, rfl⟩
  · show _ = (((h + bg1 e + chs e f g + k + w + (bg0 a + mjr a b c)) % 4294967296 : Nat) : Int)
    omega
  · show _ = (((d + (h + bg1 e + chs e f g + k + w)) % 4294967296 : Nat) : Int)
    omega
/-- What holds in block's last loop. -/
structure MxRel2 (w : World) (s : S8) (l : List Nat) (B2 B4 B5 : Nat) (wr : World) : Prop where
  r2 : Row wr B2 142 (u32s s.list)
  r4 : Row wr B4 142 (u32s (List.replicate 8 0))
  r5 : Row wr B5 162 (u32s (sched l))
  rk : wr.rangeAt 0 0 (u32s ks)
  bel : Below w.heap.size w wr
theorem MxRel2.drewN {w : World} {s : S8} {l : List Nat} {B2 B4 B5 : Nat} {wr : World} (h : MxRel2 w s l B2 B4 B5 wr) (n : Nat) : MxRel2 w s l B2 B4 B5 (wr.drewN n) :=
  ⟨h.r2, h.r4, h.r5, h.rk, h.bel.trans (below_drewN _ _ _)⟩

set_option maxHeartbeats 1600000 in
set_option maxRecDepth 100000 in
theorem block_any (s : S8) (bs : List Nat) (g o cap : Nat) (w : World) (hs : Bd s) (hl : bs.length = 64) (hb : AllLt 256 bs) (hr : w.rangeAt g o (u8s bs)) (hk : w.rangeAt 0 0 (u32s ks)) :
    Calls Tryz.prog 71 #[.agg (u32s s.list).toArray, .slice (some ⟨g, o, none⟩) 64 cap] w fun e w' => e = .returned (.agg (u32s (comp s bs).list).toArray) ∧ Below w.heap.size w w' := by
  have hk1 : 0 < w.heap.size := range_lt hk (by simp [u32s, ks])
  have hg1 : g < w.heap.size := range_lt hr (by intro h; have := congrArg List.length h; rw [u8s_length, hl] at this; simp at this)
  have HL := Lib.hid hl; clear hl
  have HK := Lib.hid hk; clear hk
  have HR := Lib.hid hr; clear hr
  go_enter Tryz.func71, Tryz.ntmps71
  go_wp2_with (first
    | ((with_reducible refine arm_box (o := ⟨some 2, _, _, _, _, _⟩) rfl _ _ rfl (u32s s.list) rfl ?_); intro B2 w1 hB2 hR2 hN1)
    | ((with_reducible refine arm_alloc (o := ⟨some 4, _, _, _, _, _⟩) rfl _ rfl _ z40 ?_); intro B4 w2 hB4 hR4 hN2)
    | (with_reducible refine arm_build (o := ⟨some 26, _, _, _, _, _⟩) rfl _ _ rfl zW (by kernel_rfl) ?_)
    | ((with_reducible refine arm_alloc (o := ⟨some 5, _, _, _, _, _⟩) rfl _ rfl _ z47 ?_); intro B5 w3 hB5 hR5 hN3)
    | ((with_reducible refine arm_store (o := ⟨none, _, _, _, _, _⟩) rfl _ _ _ rfl B5 0 rfl zW rfl _ _ hR5 (by rw [zW_len, u32s_length, List.length_replicate]; omega) zW_one (by rw [zW_len]; exact sz47) ?_); intro w4 hR6 hO6 hS6))
  have e2 := hB2.out; have e4 := hB4.out; have e5 := hB5.out; have z1 := hN1.size; have z2 := hN2.size; have z3 := hN3.size
  have l4 : w.heap.size ≤ B4 := by omega
  have l5 : w.heap.size ≤ B5 := by omega
  have n2 : B2 ≠ B5 := by omega
  have n4 : B4 ≠ B5 := by omega
  have ng : g ≠ B5 := by omega
  have nk : 0 ≠ B5 := by omega
  have bel4 : Below w.heap.size w w4 := below_only (below_step (below_step hN1.below (by omega) hN2.below) (by omega) hN3.below) hO6 l5 (by omega)
  have h0 : BlRel w s bs g o B2 B4 B5 (wordsOf bs 0) w4 := ⟨((hR2.old hN2.below).old hN3.below).only hO6 n2, (hR4.old hN3.below).only hO6 n4, hR6.congr (lay_all _ _ (by rw [zW_len, u32s_length, List.length_replicate])), range_block HR.out (bel4.block _ hg1), range_block HK.out (bel4.block _ hk1), bel4⟩
  have N2 := Lib.hid n2; have N4 := Lib.hid n4; have NG := Lib.hid ng; have NK := Lib.hid nk
  clear e2 e4 e5 z1 z2 z3 hB2 hB4 hB5 hR2 hR4 hR5 hR6 hN1 hN2 hN3 hO6 hS6 bel4 n2 n4 ng nk w1 w2 w3
  go_loopw [6] (fun i wr => ∃ k : Nat, k ≤ 16 ∧ i = .int .i64 k ∧ BlRel w s bs g o B2 B4 B5 (wordsOf bs k) wr) (fun i _ => 16 - (intOf i).toNat)
  case atStart => exact ⟨0, by omega, rfl, h0⟩
  case round =>
    obtain ⟨k, hk, rfl, hS⟩ := hrel
    clear h0
    by_cases hlt : k < 16
    · have hlen := HL.out
      have c0 := hS.rb (4 * k) _ (u8s_get (l := bs) (i := 4 * k) (by omega))
      have c1 := hS.rb (4 * k + 1) _ (u8s_get (l := bs) (i := 4 * k + 1) (by omega))
      have c2 := hS.rb (4 * k + 2) _ (u8s_get (l := bs) (i := 4 * k + 2) (by omega))
      have c3 := hS.rb (4 * k + 3) _ (u8s_get (l := bs) (i := 4 * k + 3) (by omega))
      have b0 := getD_lt hb (by omega) (4 * k)
      have b1 := getD_lt hb (by omega) (4 * k + 1)
      have b2 := getD_lt hb (by omega) (4 * k + 2)
      have b3 := getD_lt hb (by omega) (4 * k + 3)
      have hW : Hid (wordAt bs k = be4 (bs.getD (4 * k) 0) (bs.getD (4 * k + 1) 0) (bs.getD (4 * k + 2) 0) (bs.getD (4 * k + 3) 0)) := Lib.hid rfl
      generalize bs.getD (4 * k) 0 = x0 at c0 b0 hW
      generalize bs.getD (4 * k + 1) 0 = x1 at c1 b1 hW
      generalize bs.getD (4 * k + 2) 0 = x2 at c2 b2 hW
      generalize bs.getD (4 * k + 3) 0 = x3 at c3 b3 hW
      clear hlen
      obtain ⟨old, hold⟩ : ∃ v, (u32s (fillW (wordsOf bs k)))[k]? = some v := ⟨_, List.getElem?_eq_getElem (by rw [u32s_length, fill_len _ (by rw [wordsOf_len]; omega)]; omega)⟩
      have hcc := hS.r5.cell hold
      have hff := hS.r5.frozen k
      clear hold
      go_wp2_with fail
      obtain ⟨m0, hm0⟩ : ∃ m : Nat, m = 4 * k := ⟨_, rfl⟩
      obtain ⟨m1, hm1⟩ : ∃ m : Nat, m = 4 * k + 1 := ⟨_, rfl⟩
      obtain ⟨m2, hm2⟩ : ∃ m : Nat, m = 4 * k + 2 := ⟨_, rfl⟩
      obtain ⟨m3, hm3⟩ : ∃ m : Nat, m = 4 * k + 3 := ⟨_, rfl⟩
      have hw0 : IntKind.i64.wrap (4 * (k : Int)) = (m0 : Int) := by rw [IntWalk.i64_in _ (by omega)]; omega
      have hw1 : IntKind.i64.wrap ((m0 : Int) + 1) = (m1 : Int) := by rw [IntWalk.i64_in _ (by omega)]; omega
      have hw2 : IntKind.i64.wrap ((m0 : Int) + 2) = (m2 : Int) := by rw [IntWalk.i64_in _ (by omega)]; omega
      have hw3 : IntKind.i64.wrap ((m0 : Int) + 3) = (m3 : Int) := by rw [IntWalk.i64_in _ (by omega)]; omega
      have hl0 : (m0 : Int) < 64 := by omega
      have hl1 : (m1 : Int) < 64 := by omega
      have hl2 : (m2 : Int) < 64 := by omega
      have hl3 : (m3 : Int) < 64 := by omega
      rw [← hm0] at c0
      rw [← hm1] at c1
      rw [← hm2] at c2
      rw [← hm3] at c3
      clear hm0 hm1 hm2 hm3
      refine wp_region_still_tail 34 (by kernel_rfl) (by kernel_rfl) ?_
      simp only [List.take_succ_cons, List.take_zero, List.drop_succ_cons, List.drop_zero]
      iterate 34 still_step
      refine wpStill_nil ?_
      have hv : IntKind.u32.wrap (IntKind.u32.wrap (IntKind.u32.wrap (IntKind.u32.wrap (16777216 * IntKind.u32.wrap (x0 : Int)) + IntKind.u32.wrap (65536 * IntKind.u32.wrap (x1 : Int))) + IntKind.u32.wrap (256 * IntKind.u32.wrap (x2 : Int))) + IntKind.u32.wrap (x3 : Int)) = ((wordAt bs k : Nat) : Int) := by
        rw [hW.out]; unfold be4; simp only [IntKind.wrap_u32]; omega
      rw [hv]
      clear hv hw0 hw1 hw2 hw3 hl0 hl1 hl2 hl3 c0 c1 c2 c3
      change wpList _ _ _ _ _ wr.drew
      have hSd := hS.drew
      have hcc' : wr.drew.cell? ⟨B5, k, none⟩ = some old := hcc
      have hff' : wr.drew.frozen? ⟨B5, k, none⟩ = false := hff
      clear hcc hff hS
      generalize wr.drew = wz at hSd hcc' hff' ⊢
      go_wp2
      go_roundw
      case rel => exact ⟨k + 1, by omega, by go_num, by rw [wordsOf_succ]; exact hSd.step N2.out N4.out NG.out NK.out l5 (by rw [wordsOf_len]; omega) _ _ (wordsOf_len bs k).symm⟩
      case measure => simp [intOf]; omega
    · obtain rfl : k = 16 := by omega
      have h0 := hS
      clear hS hlt hk
      rw [show ((16 : Nat) : Int) = 16 from rfl]
      go_wp2_with fail
      go_loopw [7] (fun i wr => ∃ k : Nat, 16 ≤ k ∧ k ≤ 64 ∧ i = .int .i64 k ∧ BlRel w s bs g o B2 B4 B5 (sch (k - 16) (wordsOf bs 16)) wr) (fun i _ => 64 - (intOf i).toNat)
      case atStart => exact ⟨16, by omega, by omega, rfl, h0⟩
      case round =>
        obtain ⟨k, hk0, hk, rfl, hS⟩ := hrel
        clear h0
        have hln : (sch (k - 16) (wordsOf bs 16)).length = k := by rw [sch_len, wordsOf_len]; omega
        have hal : AllLt 4294967296 (sch (k - 16) (wordsOf bs 16)) := sch_lt _ (wordsOf_lt hb 16)
        by_cases hlt : k < 64
        · have hsw : sch (k + 1 - 16) (wordsOf bs 16) = sch (k - 16) (wordsOf bs 16) ++ [nextW (sch (k - 16) (wordsOf bs 16))] := by
            rw [show k + 1 - 16 = (k - 16) + 1 from by omega]; rfl
          generalize sch (k - 16) (wordsOf bs 16) = ws at hS hln hal hsw
          have c2 := hS.r5.cell (fill_get ws (k - 2) (by omega))
          have c7 := hS.r5.cell (fill_get ws (k - 7) (by omega))
          have c15 := hS.r5.cell (fill_get ws (k - 15) (by omega))
          have c16 := hS.r5.cell (fill_get ws (k - 16) (by omega))
          obtain ⟨old, hold⟩ : ∃ v, (u32s (fillW ws))[k]? = some v := ⟨_, List.getElem?_eq_getElem (by rw [u32s_length, fill_len _ (by omega)]; omega)⟩
          have hcc := hS.r5.cell hold
          have hff := hS.r5.frozen k
          have b2 := getD_lt hal (by omega) (k - 2)
          have b7 := getD_lt hal (by omega) (k - 7)
          have b15 := getD_lt hal (by omega) (k - 15)
          have b16 := getD_lt hal (by omega) (k - 16)
          have hnx : Hid (nextW ws = (sm1 (ws.getD (k - 2) 0) + ws.getD (k - 7) 0 + sm0 (ws.getD (k - 15) 0) + ws.getD (k - 16) 0) % 4294967296) := by
            unfold nextW; rw [hln]; exact rfl
          have HN := Lib.hid hln; have HW := Lib.hid hsw; clear hln hsw hold
          generalize ws.getD (k - 2) 0 = x2 at c2 b2 hnx
          generalize ws.getD (k - 7) 0 = x7 at c7 b7 hnx
          generalize ws.getD (k - 15) 0 = x15 at c15 b15 hnx
          generalize ws.getD (k - 16) 0 = x16 at c16 b16 hnx
          go_wp2_with (first
            | (go_at_call 89; (first | (with_reducible refine (refTurn_any x15 _ _ b15 (by omega) (by omega)).mono ?_) | (with_reducible refine (refTurn_any x2 _ _ b2 (by omega) (by omega)).mono ?_)); rintro e w' ⟨rfl, rfl⟩)
            | (go_at_call 88; (first | (with_reducible refine (refSm0 x15 _ b15).mono ?_) | (with_reducible refine (refSm1 x2 _ b2).mono ?_)); rintro e w' ⟨rfl, rfl⟩))
          have hw7 : IntKind.i64.wrap ((k : Int) - 7) = ((k - 7 : Nat) : Int) := by rw [IntWalk.i64_in _ (by omega)]; omega
          have hw16 : IntKind.i64.wrap ((k : Int) - 16) = ((k - 16 : Nat) : Int) := by rw [IntWalk.i64_in _ (by omega)]; omega
          have hl7 : ((k - 7 : Nat) : Int) < 64 := by omega
          have hl16 : ((k - 16 : Nat) : Int) < 64 := by omega
          refine wp_region_still_tail 14 (by kernel_rfl) (by kernel_rfl) ?_
          simp only [List.take_succ_cons, List.take_zero, List.drop_succ_cons, List.drop_zero]
          iterate 14 still_step
          refine wpStill_nil ?_
          have hv : IntKind.u32.wrap (IntKind.u32.wrap (IntKind.u32.wrap ((sm1 x2 : Int) + (x7 : Int)) + (sm0 x15 : Int)) + (x16 : Int)) = ((nextW ws : Nat) : Int) := by
            rw [hnx.out, IntKind.wrap_u32, IntKind.wrap_u32, IntKind.wrap_u32]; omega
          rw [hv]
          clear hv hw7 hw16 hl7 hl16
          change wpList _ _ _ _ _ wr.drew
          have hSd := hS.drew
          have hcc' : wr.drew.cell? ⟨B5, k, none⟩ = some old := hcc
          have hff' : wr.drew.frozen? ⟨B5, k, none⟩ = false := hff
          clear hcc hff c2 c7 c15 c16 hS
          generalize wr.drew = wz at hSd hcc' hff' ⊢
          go_wp2
          go_roundw
          case rel => exact ⟨k + 1, by omega, by omega, by go_num, by rw [HW.out]; exact hSd.step N2.out N4.out NG.out NK.out l5 (by rw [HN.out]; exact hlt) _ _ HN.out.symm⟩
          case measure => simp [intOf]; omega
        · obtain rfl : k = 64 := by omega
          have hfin : fillW (sch (64 - 16) (wordsOf bs 16)) = sched bs := by unfold fillW; rw [hln]; simp [sched]
          have h5 := hS.r5
          rw [hfin] at h5
          have h0 : MxRel2 w s bs B2 B4 B5 wr := ⟨hS.r2, hS.r4, h5, hS.rk, hS.bel⟩
          clear hS h5 hfin hln hal hlt hk hk0
          rw [show ((64 : Nat) : Int) = 64 from rfl]
          go_wp2_with fail
          have c0 : wr.cell? ⟨B2, 0, none⟩ = some (.int .u32 ((s.a : Nat) : Int)) := h0.r2.cell (u32s_get (l := s.list) (i := 0) (by rw [list_len]; omega))
          have c1 : wr.cell? ⟨B2, 1, none⟩ = some (.int .u32 ((s.b : Nat) : Int)) := h0.r2.cell (u32s_get (l := s.list) (i := 1) (by rw [list_len]; omega))
          have c2 : wr.cell? ⟨B2, 2, none⟩ = some (.int .u32 ((s.c : Nat) : Int)) := h0.r2.cell (u32s_get (l := s.list) (i := 2) (by rw [list_len]; omega))
          have c3 : wr.cell? ⟨B2, 3, none⟩ = some (.int .u32 ((s.d : Nat) : Int)) := h0.r2.cell (u32s_get (l := s.list) (i := 3) (by rw [list_len]; omega))
          have c4 : wr.cell? ⟨B2, 4, none⟩ = some (.int .u32 ((s.e : Nat) : Int)) := h0.r2.cell (u32s_get (l := s.list) (i := 4) (by rw [list_len]; omega))
          have c5 : wr.cell? ⟨B2, 5, none⟩ = some (.int .u32 ((s.f : Nat) : Int)) := h0.r2.cell (u32s_get (l := s.list) (i := 5) (by rw [list_len]; omega))
          have c6 : wr.cell? ⟨B2, 6, none⟩ = some (.int .u32 ((s.g : Nat) : Int)) := h0.r2.cell (u32s_get (l := s.list) (i := 6) (by rw [list_len]; omega))
          have c7 : wr.cell? ⟨B2, 7, none⟩ = some (.int .u32 ((s.h : Nat) : Int)) := h0.r2.cell (u32s_get (l := s.list) (i := 7) (by rw [list_len]; omega))
          go_quiet (fail)
          have h2 := h0.drewN nq
          clear h0 c0 c1 c2 c3 c4 c5 c6 c7
          generalize wr.drewN nq = w8 at h2 ⊢
          clear nq wr
          go_wp2_with fail
          go_loopw [20, 12, 13, 14, 15, 16, 17, 18, 19] (fun i va vb vc vd ve vf vg vh wr => ∃ k : Nat, k ≤ 64 ∧ i = .int .i64 k ∧ Slots (rnds ks (sched bs) s k) va vb vc vd ve vf vg vh ∧ MxRel2 w s bs B2 B4 B5 wr) (fun i _ _ _ _ _ _ _ _ _ => 64 - (intOf i).toNat)
          case atStart => exact ⟨0, by omega, rfl, ⟨rfl, rfl, rfl, rfl, rfl, rfl, rfl, rfl⟩, h2⟩
          case round =>
            obtain ⟨k, hk, rfl, ⟨rfl, rfl, rfl, rfl, rfl, rfl, rfl, rfl⟩, hM⟩ := hrel
            clear h2
            have hrb := rnds_bd hs ks (sched bs) k
            by_cases hlt : k < 64
            · have hR : Hid (rnds ks (sched bs) s (k + 1) = rnd (rnds ks (sched bs) s k) (ks.getD k 0) ((sched bs).getD k 0)) := Lib.hid rfl
              generalize rnds ks (sched bs) s k = r at hR hrb ⊢
              obtain ⟨ra, rb, rc, rd, re, rf, rg, rh⟩ := r
              obtain ⟨ba, bb, bc, bd, be, bf, bg, bh⟩ := hrb
              simp only at ba bb bc bd be bf bg bh
              have ck := hM.rk k _ (u32s_get (l := ks) (i := k) (by show k < 64; exact hlt))
              rw [Nat.zero_add] at ck
              have cw := hM.r5.cell (u32s_get (l := sched bs) (i := k) (by rw [sched_len]; exact hlt))
              have bk := getD_lt ks_lt (by omega) k
              have bw := getD_lt (sched_lt hb) (by omega) k
              generalize ks.getD k 0 = xk at ck bk hR
              generalize (sched bs).getD k 0 = xw at cw bw hR
              have hch := chs_add re rf rg be bf bg
              have g1 := u32_and_nat re rf be bf
              have g2 := u32_and_nat (4294967295 - re) rg (by omega) bg
              rw [show ((4294967295 - re : Nat) : Int) = 4294967295 - (re : Int) from by omega] at g2
              have g3 := u32_and_nat ra rb ba bb
              have g4 := u32_and_nat ra rc ba bc
              have g5 := u32_and_nat rb rc bb bc
              have g6 := u32_or_nat _ _ (and_lt (b := rb) ba) (and_lt (b := rc) ba)
              have g7 := u32_or_nat _ _ (or_lt (and_lt (b := rb) ba) (and_lt (b := rc) ba)) (and_lt (b := rc) bb)
              have hmj : Hid (((ra &&& rb) ||| (ra &&& rc)) ||| (rb &&& rc) = mjr ra rb rc) := Lib.hid rfl
              have q1 : re &&& rf < 4294967296 := and_lt be
              have q2 : (4294967295 - re) &&& rg < 4294967296 := and_lt (by omega)
              generalize re &&& rf = y1 at hch g1 q1
              generalize (4294967295 - re) &&& rg = y2 at hch g2 q2
              generalize ra &&& rb = y3 at g3 g6 g7 hmj
              generalize ra &&& rc = y4 at g4 g6 g7 hmj
              generalize rb &&& rc = y5 at g5 g7 hmj
              generalize y3 ||| y4 = y6 at g6 g7 hmj
              generalize y6 ||| y5 = y7 at g7 hmj
              have HCH := Lib.hid hch; clear hch
              have b1 := bg1_lt be
              have b2 := chs_lt (y := rf) (z := rg) be
              have b3 := bg0_lt ba
              have b4 := mjr_lt (z := rc) ba bb
              have q7 : y7 < 4294967296 := by rw [hmj.out]; exact b4
              go_wp2_with (first
                | (go_at_call 89; (with_reducible refine (refTurn_any re _ _ be (by omega) (by omega)).mono ?_); rintro e w' ⟨rfl, rfl⟩)
                | (go_at_call 88; (with_reducible refine (refBg1 re _ be).mono ?_); rintro e w' ⟨rfl, rfl⟩))
              have ik : (k : Int) < 64 := by omega
              go_quiet (fail)
              have hM2 := hM.drewN nq
              clear hM ck cw
              generalize wr.drewN nq = w9 at hM2 ⊢
              go_wp2_with (first
                | (go_at_call 89; (with_reducible refine (refTurn_any ra _ _ ba (by omega) (by omega)).mono ?_); rintro e w' ⟨rfl, rfl⟩)
                | (go_at_call 88; (with_reducible refine (refBg0 ra _ ba).mono ?_); rintro e w' ⟨rfl, rfl⟩))
              go_roundw
              case rel => exact ⟨k + 1, by omega, by go_num, by rw [hR.out]; exact slots_rnd2 ra rb rc rd re rf rg rh xk xw _ _ _ _ _ rfl HCH.out rfl hmj.out, hM2⟩
              case measure => simp [intOf]; omega
            · obtain rfl : k = 64 := by omega
              rw [show ((64 : Nat) : Int) = 64 from rfl]
              have c0 : wr.cell? ⟨B2, 0, none⟩ = some (.int .u32 ((s.a : Nat) : Int)) := hM.r2.cell (u32s_get (l := s.list) (i := 0) (by rw [list_len]; omega))
              have c1 : wr.cell? ⟨B2, 1, none⟩ = some (.int .u32 ((s.b : Nat) : Int)) := hM.r2.cell (u32s_get (l := s.list) (i := 1) (by rw [list_len]; omega))
              have c2 : wr.cell? ⟨B2, 2, none⟩ = some (.int .u32 ((s.c : Nat) : Int)) := hM.r2.cell (u32s_get (l := s.list) (i := 2) (by rw [list_len]; omega))
              have c3 : wr.cell? ⟨B2, 3, none⟩ = some (.int .u32 ((s.d : Nat) : Int)) := hM.r2.cell (u32s_get (l := s.list) (i := 3) (by rw [list_len]; omega))
              have c4 : wr.cell? ⟨B2, 4, none⟩ = some (.int .u32 ((s.e : Nat) : Int)) := hM.r2.cell (u32s_get (l := s.list) (i := 4) (by rw [list_len]; omega))
              have c5 : wr.cell? ⟨B2, 5, none⟩ = some (.int .u32 ((s.f : Nat) : Int)) := hM.r2.cell (u32s_get (l := s.list) (i := 5) (by rw [list_len]; omega))
              have c6 : wr.cell? ⟨B2, 6, none⟩ = some (.int .u32 ((s.g : Nat) : Int)) := hM.r2.cell (u32s_get (l := s.list) (i := 6) (by rw [list_len]; omega))
              have c7 : wr.cell? ⟨B2, 7, none⟩ = some (.int .u32 ((s.h : Nat) : Int)) := hM.r2.cell (u32s_get (l := s.list) (i := 7) (by rw [list_len]; omega))
              have hC : Hid (comp s bs = plus s (rnds ks (sched bs) s 64)) := Lib.hid rfl
              generalize rnds ks (sched bs) s 64 = r at hC hrb ⊢
              have hws : w.heap.size ≤ wr.heap.size := hM.bel.size
              obtain ⟨sa, sb, sc, sd, se, sf, sg, sh⟩ := hs
              obtain ⟨ba, bb, bc, bd, be, bf, bg, bh⟩ := hrb
              go_wp2_with (first
                | ((with_reducible refine arm_store (o := ⟨none, _, _, _, _, _⟩) rfl _ _ _ rfl B4 0 rfl (u32s (plus s r).list) rfl _ _ hM.r4 (by rw [u32s_length, u32s_length, list_len]; simp) (u32s_one _) (by rw [u32s_length, list_len]; exact sz40) ?_); intro wf hrf hof hsf))
              refine bodyPost_ret (v := .agg (u32s (plus s r).list).toArray) (result_row (p := 4) (ty := 142) (u := 142) (by kernel_rfl) _ _ B4 _ rfl (hrf.congr (lay_all _ _ (by rw [u32s_length, u32s_length, list_len]; simp))) (by rw [u32s_length, list_len]; exact sz40)) rfl ⟨by rw [hC.out], below_only hM.bel hof l4 hws⟩
end Go.Proofs.YtnjmocobncncdaaGreatDoor.Sha

/-
  The contract of the document's Padded (the bytes, and what stands behind them), over this seat's translation.
-/
namespace Go.Proofs.YtnjmocobncncdaaGreatDoor.Sha
open Go.ChangeShapes Go.WideShapes Go.ChangeAt Go.RowKit Go.Proofs.YtnjmocobncncdaaGreatDoor.Num Go.Proofs.YtnjmocobncncdaaGreatDoor.Mem Go.Proofs.YtnjmocobncncdaaGreatDoor.Bt
set_option linter.unusedVariables false

/-- The numbers by which the bytes of a number are told. -/
def pw : Nat → Nat
  | 0 => 72057594037927936
  | k + 1 => pw k / 256
theorem pw_pos (k : Nat) (h : k < 8) : 1 ≤ pw k := by
  match k, h with
  | 0, _ => decide
  | 1, _ => decide
  | 2, _ => decide
  | 3, _ => decide
  | 4, _ => decide
  | 5, _ => decide
  | 6, _ => decide
  | 7, _ => decide
theorem pw_le (k : Nat) : pw k ≤ 72057594037927936 := by
  induction k with
  | zero => exact Nat.le_refl _
  | succ k ih => exact Nat.le_trans (Nat.div_le_self _ _) ih
theorem bytes8_get (n k : Nat) (h : k < 8) : (bytes8 n).take (k + 1) = (bytes8 n).take k ++ [n / pw k % 256] := by
  match k, h with
  | 0, _ => show [n / 4294967296 / 16777216 % 256] = [n / 72057594037927936 % 256]; congr 1; omega
  | 1, _ => show [_, n / 4294967296 / 65536 % 256] = [_, n / 281474976710656 % 256]; congr 2; omega
  | 2, _ => show [_, _, n / 4294967296 / 256 % 256] = [_, _, n / 1099511627776 % 256]; congr 3; omega
  | 3, _ => show [_, _, _, n / 4294967296 % 256] = [_, _, _, n / 4294967296 % 256]; rfl
  | 4, _ => show [_, _, _, _, n % 4294967296 / 16777216 % 256] = [_, _, _, _, n / 16777216 % 256]; congr 5; omega
  | 5, _ => show [_, _, _, _, _, n % 4294967296 / 65536 % 256] = [_, _, _, _, _, n / 65536 % 256]; congr 6; omega
  | 6, _ => show [_, _, _, _, _, _, n % 4294967296 / 256 % 256] = [_, _, _, _, _, _, n / 256 % 256]; congr 7; omega
  | 7, _ => show [_, _, _, _, _, _, _, n % 4294967296 % 256] = [_, _, _, _, _, _, _, n / 1 % 256]; congr 8; omega
/-- What Padded leaves. -/
structure PadPost (w : World) (bs : List Nat) (e : Ending) (w' : World) : Prop where
  ex : ∃ p cap, e = .returned (.slice p (padded bs).length cap) ∧ Own w' w.heap.size p cap (padded bs)
  bel : Below w.heap.size w w'
theorem zeros_snoc (z : Nat) : List.replicate (z + 1) (0 : Nat) = List.replicate z 0 ++ [0] := List.replicate_succ'

set_option maxHeartbeats 1000000 in
set_option maxRecDepth 100000 in
theorem padded_any (bs : List Nat) (p : Option Addr) (cap : Nat) (w : World) (hb : AllLt 256 bs) (hsz : bs.length ≤ 900000) (hcap : bs.length ≤ cap) (hnil : p = none → cap = 0) (hp : bs ≠ [] → ∃ g o, p = some ⟨g, o, none⟩ ∧ w.rangeAt g o (u8s bs)) :
    Calls Tryz.prog 70 #[.slice p bs.length cap] w (PadPost w bs) := by
  have HP := Lib.hid hp; have HN := Lib.hid hnil; clear hp hnil
  obtain ⟨Z, hZ⟩ : ∃ Z : Nat, Z = (119 - bs.length % 64) % 64 := ⟨_, rfl⟩
  have hZ1 : (bs.length + 1 + Z) % 64 = 56 := by omega
  have hZ2 : Z < 64 := by omega
  have hpad : padded bs = bs ++ [128] ++ List.replicate Z 0 ++ bytes8 (8 * bs.length) := by unfold padded ending; rw [hZ]; simp
  have HPAD := Lib.hid hpad; have HZ1 := Lib.hid hZ1; clear hpad hZ hZ1
  go_enter Tryz.func70, Tryz.ntmps70
  go_wp2_with (first
    | ((refine arm_buildSlice (o := ⟨some 7, _, _, _, _, _⟩) rfl 0 _ rfl [] #[] (by simp) bs0 ?_); intro b1 w1 hb1 hR1 hN1; have hs1 : w1.heap.size = w.heap.size + 1 := hN1.size)
    | ((refine arm_append (o := ⟨some 9, _, _, _, _, _⟩) rfl _ _ rfl w.heap.size _ _ _ [] rfl rfl (own_new hR1 (by have := hb1.out; omega)) p bs.length cap bs rfl rfl (fun h => ⟨by have h1 := HN.out h; omega, HN.out h⟩) (fun hne => by obtain ⟨g, o, e, hr⟩ := HP.out hne; exact ⟨g, o, e, range_block hr (hN1.below.block g (range_lt hr (by intro h; apply hne; simpa [u8s] using h)))⟩) (by simp; omega) (by omega) ?_); intro p2 cap2 w2 hO2 hB2; have hs2 : w1.heap.size ≤ w2.heap.size := hB2.size)
    | ((refine arm_buildSlice (o := ⟨some 10, _, _, _, _, _⟩) rfl 1 _ rfl [.int .u8 128] #[(0, .int .u8 128)] (by simp [Act.eval]) (bs1 128) ?_); intro b3 w3 hb3 hR3 hN3; have hs3 : w3.heap.size = w2.heap.size + 1 := hN3.size)
    | ((refine arm_append (o := ⟨some 11, _, _, _, _, _⟩) rfl _ _ rfl w.heap.size _ _ _ ([] ++ bs) (by simp) rfl (hO2.below hN3.below) (some ⟨b3, 0, none⟩) 1 1 [128] rfl rfl (fun h => by cases h) (fun _ => ⟨b3, 0, rfl, hR3.range 0 _ (fun j v hj => by rw [Nat.zero_add]; exact hj)⟩) (by simp; omega) (by omega) ?_); intro p4 cap4 w4 hO4 hB4))
  have bel4 : Below w.heap.size w w4 := (((hN1.below.trans hB2).trans (hN3.below.mono (by omega))).trans hB4)
  rw [List.nil_append] at hO4
  have hb4 : w.heap.size ≤ w4.heap.size := bel4.size
  clear hb1 hR1 hN1 hs1 hO2 hB2 hs2 hb3 hR3 hN3 hs3 hB4 w1 w2 w3 hb4
  go_loopw [3] (fun v wr => ∃ z : Nat, z ≤ Z ∧ ∃ p cap, v = .slice p (bs.length + 1 + z) cap ∧ Own wr w.heap.size p cap (bs ++ [128] ++ List.replicate z 0) ∧ Below w.heap.size w wr) (fun v _ => bs.length + 1 + Z - sliceLen v)
  case atStart => exact ⟨0, by omega, p4, cap4, rfl, by rw [List.replicate_zero, List.append_nil]; exact hO4, bel4⟩
  case round =>
    clear hO4 bel4
    obtain ⟨z, hz, q, qc, rfl, hO, hB⟩ := hrel
    have hws : w.heap.size ≤ wr.heap.size := hB.size
    by_cases hlt : z < Z
    · have hne : (((((bs.length : Int) + 1 + (z : Int)) % 64) != 56)) = true := by have := HZ1.out; simp; omega
      go_wp2_with (first
        | ((refine arm_buildSlice (o := ⟨some 17, _, _, _, _, _⟩) rfl 1 _ rfl [.int .u8 0] #[(0, .int .u8 0)] (by simp [Act.eval]) (bs1 0) ?_); intro b3 w3 hb3 hR3 hN3; have hs3 : w3.heap.size = wr.heap.size + 1 := hN3.size)
        | ((refine arm_append (o := ⟨some 18, _, _, _, _, _⟩) rfl _ _ rfl w.heap.size _ _ _ (bs ++ [128] ++ List.replicate z 0) (by simp; omega) rfl (hO.below hN3.below) (some ⟨b3, 0, none⟩) 1 1 [0] rfl rfl (fun h => by cases h) (fun _ => ⟨b3, 0, rfl, hR3.range 0 _ (fun j v hj => by rw [Nat.zero_add]; exact hj)⟩) (by simp; omega) (by omega) ?_); intro p5 cap5 w5 hO5 hB5))
      go_roundw
      case rel => exact ⟨z + 1, by omega, p5, cap5, by rw [show bs.length + 1 + (z + 1) = bs.length + 1 + z + 1 from by omega], by rw [zeros_snoc, ← List.append_assoc]; exact hO5, (hB.trans (hN3.below.mono hws)).trans hB5⟩
      case measure => simp only [sliceLen]; omega
    · obtain rfl : z = Z := by omega
      have hne : (((((bs.length : Int) + 1 + (z : Int)) % 64) != 56)) = false := by have := HZ1.out; simp; omega
      go_wp2_with fail
      have hl8 : (bytes8 (8 * bs.length)).length = 8 := rfl
      go_loopw [6, 3, 5] (fun i v pv wr => ∃ k : Nat, k ≤ 8 ∧ i = .int .i64 k ∧ pv = .int .u64 ((pw k : Nat) : Int) ∧ ∃ p cap, v = .slice p (bs.length + 1 + z + k) cap ∧ Own wr w.heap.size p cap (bs ++ [128] ++ List.replicate z 0 ++ (bytes8 (8 * bs.length)).take k) ∧ Below w.heap.size w wr) (fun i _ _ _ => 8 - (intOf i).toNat)
      case atStart => exact ⟨0, by omega, rfl, rfl, q, qc, rfl, by rw [List.take_zero, List.append_nil]; exact hO, hB⟩
      case round =>
        have HL8 := Lib.hid hl8
        clear hO hB hne hws hlt hz hl8
        obtain ⟨k, hk, rfl, rfl, q2, qc2, rfl, hO, hB⟩ := hrel
        have hws : w.heap.size ≤ wr.heap.size := hB.size
        by_cases hlt : k < 8
        · have hpp := pw_pos k hlt
          have hpw : Hid (pw (k + 1) = pw k / 256) := Lib.hid rfl
          have htk : Hid ((bytes8 (8 * bs.length)).take (k + 1) = (bytes8 (8 * bs.length)).take k ++ [8 * bs.length / pw k % 256]) := Lib.hid (bytes8_get _ k hlt)
          have hpl := pw_le k
          generalize pw k = pk at hpp hpw htk hpl ⊢
          obtain ⟨y0, hy0⟩ : ∃ y0 : Nat, y0 = 8 * bs.length / pk := ⟨_, rfl⟩
          have hy1 : y0 ≤ 7200000 := by rw [hy0]; exact Nat.le_trans (Nat.div_le_self _ _) (by omega)
          have hdv : (8 * (bs.length : Int)) / (pk : Int) = (y0 : Int) := by rw [hy0]; simp
          rw [← hy0] at htk
          clear hy0
          go_wp2_with (first
            | ((refine arm_buildSlice (o := ⟨some 33, _, _, _, _, _⟩) rfl 1 _ rfl [.int .u8 ((y0 % 256 : Nat) : Int)] #[(0, .int .u8 ((y0 % 256 : Nat) : Int))] (by simp [Act.eval]) (bs1 _) ?_); intro b6 w6 hb6 hR6 hN6; have hs6 : w6.heap.size = wr.heap.size + 1 := hN6.size)
            | ((refine arm_append (o := ⟨some 34, _, _, _, _, _⟩) rfl _ _ rfl w.heap.size _ _ _ (bs ++ [128] ++ List.replicate z 0 ++ (bytes8 (8 * bs.length)).take k) (by rw [List.length_append, List.length_take, HL8.out]; simp; omega) rfl (hO.below hN6.below) (some ⟨b6, 0, none⟩) 1 1 [y0 % 256] rfl rfl (fun h => by cases h) (fun _ => ⟨b6, 0, rfl, hR6.range 0 _ (fun j v hj => by rw [Nat.zero_add]; exact hj)⟩) (by rw [List.length_append, List.length_take, HL8.out]; simp; omega) (by omega) ?_); intro p5 cap5 w5 hO5 hB5))
          go_roundw
          case rel => exact ⟨k + 1, by omega, by go_num, by rw [hpw.out]; go_num, p5, cap5, by rw [show bs.length + 1 + z + (k + 1) = bs.length + 1 + z + k + 1 from by omega], by rw [htk.out, ← List.append_assoc]; exact hO5, (hB.trans (hN6.below.mono hws)).trans hB5⟩
          case measure => simp [intOf]; omega
        · obtain rfl : k = 8 := by omega
          have hpad2 : bs ++ [128] ++ List.replicate z 0 ++ (bytes8 (8 * bs.length)).take 8 = padded bs := by
            rw [HPAD.out, List.take_of_length_le (by rw [HL8.out]; omega)]
          have hpl : bs.length + 1 + z + 8 = (padded bs).length := by rw [← hpad2, List.length_append, List.length_take, HL8.out]; simp; omega
          rw [hpad2] at hO
          have HPL := Lib.hid hpl
          clear hpad2 hpl
          go_wp2_with fail
          go_ret
          exact ⟨⟨q2, qc2, by rw [← HPL.out]; rfl, hO⟩, hB⟩
end Go.Proofs.YtnjmocobncncdaaGreatDoor.Sha

/-
  The contract of the document's Of (the digest), over this seat's translation.
-/
namespace Go.Proofs.YtnjmocobncncdaaGreatDoor.Sha
open Go.ChangeShapes Go.WideShapes Go.ChangeAt Go.RowKit Go.Proofs.YtnjmocobncncdaaGreatDoor.Num Go.Proofs.YtnjmocobncncdaaGreatDoor.Mem Go.Proofs.YtnjmocobncncdaaGreatDoor.Bt
set_option linter.unusedVariables false

theorem z24 : Mem.Zero Tryz.prog 31 (u8s (List.replicate 32 0)) := by unfold Mem.Zero; kernel_rfl
theorem sz24 : Sized Tryz.prog 31 32 := ⟨.array 32 5, by kernel_rfl, rfl, by kernel_rfl⟩
def zO : List Value := u8s (List.replicate 32 0)
theorem zO_len : zO.length = 32 := by unfold zO; rw [u8s_length, List.length_replicate]
theorem zO_one : OneCells zO := u8s_one _
theorem padded_len (l : List Nat) : (padded l).length % 64 = 0 ∧ l.length + 9 ≤ (padded l).length ∧ (padded l).length ≤ l.length + 72 := by
  unfold padded; rw [List.length_append, ending_len]; omega
/-- What holds in the loop over the blocks. -/
structure RfRel (w : World) (l : List Nat) (R H g : Nat) (k : Nat) (wr : World) : Prop where
  rr : Row wr R 31 (u8s (List.replicate 32 0))
  rh : Row wr H 142 (u32s (fold64 k H0 (padded l)).list)
  rp : wr.rangeAt g 0 (u8s (padded l))
  rk : wr.rangeAt 0 0 (u32s ks)
  bel : Below w.heap.size w wr
/-- What holds in the loop over the digest's bytes. -/
structure RoRel (w : World) (s : S8) (k R H U : Nat) (wr : World) : Prop where
  rr : Row wr R 31 (u8s (List.replicate 32 0))
  rh : Row wr H 142 (u32s s.list)
  ru : Row wr U 31 (u8s (fillO s k))
  bel : Below w.heap.size w wr

set_option maxHeartbeats 1600000 in
set_option maxRecDepth 100000 in
theorem refOf_any (bs : List Nat) (p : Option Addr) (cap : Nat) (w : World) (hb : AllLt 256 bs) (hsz : bs.length ≤ 900000) (hcap : bs.length ≤ cap) (hnil : p = none → cap = 0) (hp : bs ≠ [] → ∃ g o, p = some ⟨g, o, none⟩ ∧ w.rangeAt g o (u8s bs)) (hk : w.rangeAt 0 0 (u32s ks)) :
    Calls Tryz.prog 51 #[.slice p bs.length cap] w fun e w' => e = .returned (.agg (u8s (digest bs)).toArray) ∧ Below w.heap.size w w' := by
  have HP := Lib.hid hp; have HN := Lib.hid hnil; have HK := Lib.hid hk
  have hk1 : 0 < w.heap.size := range_lt hk (by simp [u32s, ks])
  clear hp hnil hk
  go_enter Tryz.func51, Tryz.ntmps51
  go_wp2_with (first
    | ((with_reducible refine arm_alloc (o := ⟨some 2, _, _, _, _, _⟩) rfl _ rfl _ z24 ?_); intro R w1 hRe hR1 hN1)
    | (refine arm_build (o := ⟨some 8, _, _, _, _, _⟩) rfl _ _ rfl (u32s H0.list) (by kernel_rfl) ?_)
    | ((with_reducible refine arm_alloc (o := ⟨some 3, _, _, _, _, _⟩) rfl _ rfl _ z40 ?_); intro H w2 hHe hR2 hN2)
    | ((with_reducible refine arm_store (o := ⟨none, _, _, _, _, _⟩) rfl _ _ _ rfl H 0 rfl (u32s H0.list) rfl _ _ hR2 (by rw [u32s_length, u32s_length, list_len]; simp) (u32s_one _) (by rw [u32s_length, list_len]; exact sz40) ?_); intro w3 hR3 hO3 hS3))
  have e1 := hRe.out; have e2 := hHe.out; have z1 := hN1.size; have z2 := hN2.size; have z3 := hS3.out
  have bel3 : Below w.heap.size w w3 := below_only (below_step hN1.below (by omega) hN2.below) hO3 (by omega) (by omega)
  have hRR3 : Row w3 R 31 (u8s (List.replicate 32 0)) := (hR1.old hN2.below).only hO3 (by omega)
  have hRH3 : Row w3 H 142 (u32s H0.list) := hR3.congr (lay_all _ _ (by rw [u32s_length, u32s_length, list_len]; simp))
  have lR : w.heap.size ≤ R := by omega
  have lH : w.heap.size ≤ H := by omega
  have nRH : R ≠ H := by omega
  have lw3 : w.heap.size + 2 ≤ w3.heap.size := by omega
  have hHlt : H < w3.heap.size := hRH3.lt
  have hRlt : R < w3.heap.size := hRR3.lt
  clear e1 e2 z1 z2 z3 hRe hHe hR1 hN1 hR2 hN2 hR3 hO3 hS3 w1 w2
  refine (padded_any bs p cap w3 hb hsz hcap HN.out (fun hne => by
    obtain ⟨g, o, e, hr⟩ := HP.out hne
    exact ⟨g, o, e, range_block hr (bel3.block g (range_lt hr (by intro h; apply hne; simpa [u8s] using h)))⟩)).mono ?_
  rintro e w4 ⟨⟨q, qc, rfl, hOwn⟩, hB4⟩
  obtain ⟨hm64, hlo, hhi⟩ := padded_len bs
  have hpne : padded bs ≠ [] := by intro h; rw [h] at hlo; simp at hlo
  obtain ⟨hqc, hat⟩ := hOwn.at
  obtain ⟨g, go, rfl, hgl, hrg⟩ := hat hpne
  have hg0 : go = 0 := by
    rcases hOwn.own.2 with ⟨hv, _⟩ | ⟨g', cap', cur, hv, _⟩
    · cases hv
    · simp at hv; exact hv.1.2
  subst hg0
  have bel4 : Below w.heap.size w w4 := below_step bel3 (by omega) hB4
  have h0 : RfRel w bs R H g 0 w4 := ⟨hRR3.old hB4, hRH3.old hB4, hrg, range_block HK.out (bel4.block _ hk1), bel4⟩
  have nRg : g ≠ R := by omega
  have nHg : g ≠ H := by omega
  have hplt := padded_lt hb
  obtain ⟨N, hN⟩ : ∃ N : Nat, N = (padded bs).length / 64 := ⟨_, rfl⟩
  have hNl : (padded bs).length = 64 * N := by omega
  have hN2 : N ≤ 15000 := by omega
  have hst : Hid (stOf (padded bs) = fold64 N H0 (padded bs)) := by unfold stOf; rw [hN]; exact rfl
  rw [hNl] at hqc ⊢
  have HNL := Lib.hid hNl; have NRH := Lib.hid nRH; have NRG := Lib.hid nRg; have NHG := Lib.hid nHg
  clear hHlt hRlt lw3 hRR3 hRH3 bel3 hB4 hOwn hat hrg hgl bel4 hm64 hlo hhi hpne hN hNl nRH nRg nHg w3
  go_wp2_with fail
  go_loopw [5] (fun i wr => ∃ k : Nat, k ≤ N ∧ i = .int .i64 (64 * (k : Int)) ∧ RfRel w bs R H g k wr) (fun i _ => 64 * N - (intOf i).toNat)
  case atStart => exact ⟨0, by omega, rfl, h0⟩
  case round =>
    clear h0
    obtain ⟨k, hkN, rfl, hS⟩ := hrel
    have hws : w.heap.size ≤ wr.heap.size := hS.bel.size
    by_cases hlt : k < N
    · go_wp2_with fail
      have hblk : ((padded bs).drop (64 * k)).take 64 = ((padded bs).drop (64 * k)).take 64 := rfl
      have hbl : (((padded bs).drop (64 * k)).take 64).length = 64 := by rw [List.length_take, List.length_drop, HNL.out]; omega
      have hbb : AllLt 256 (((padded bs).drop (64 * k)).take 64) := fun x hx => hplt x (List.mem_of_mem_drop (List.mem_of_mem_take hx))
      have hfd : Hid (fold64 (k + 1) H0 (padded bs) = comp (fold64 k H0 (padded bs)) (((padded bs).drop (64 * k)).take 64)) := Lib.hid (fold64_snoc k H0 (padded bs))
      have hbr : wr.drew.rangeAt g (64 * k) (u8s (((padded bs).drop (64 * k)).take 64)) := fun j v hj => by
        have hj2 := (List.getElem?_eq_some_iff.1 hj).1
        rw [u8s_length, hbl] at hj2
        have := hS.rp (64 * k + j) v (by
          unfold u8s at hj ⊢
          rw [List.getElem?_map, List.getElem?_take, if_pos hj2, List.getElem?_drop] at hj
          rw [List.getElem?_map]; exact hj)
        rw [Nat.zero_add] at this
        exact this
      have hbd : Bd (fold64 k H0 (padded bs)) := fold64_bd _ _ _ H0_bd
      have hSd : RfRel w bs R H g k wr.drew := ⟨hS.rr, hS.rh, hS.rp, hS.rk, hS.bel.trans ((Below.refl _ _).drew)⟩
      clear hblk hS
      generalize ((padded bs).drop (64 * k)).take 64 = blk at hbl hbb hfd hbr
      refine wp_region_any (by kernel_rfl) ?_
      change wpAny _ _ _ _ _ _ _ wr.drew
      have hwd : w.heap.size ≤ wr.drew.heap.size := hws
      generalize wr.drew = wz at hSd hbr hwd ⊢
      have hrh := hSd.rh
      generalize fold64 k H0 (padded bs) = s at hbd hfd hrh
      refine wpAny_take0 (i := 1) (v := .slice (some ⟨g, 0, none⟩) (64 * N) qc) rfl rfl 18 rfl (by kernel_rfl) (by kernel_rfl) (by kernel_rfl) (fun _ _ _ h => h) (run_op_move _ rfl _ rfl) ?_
      simp only [Act.put, List.setIfInBounds_toArray, List.set_cons_zero, List.set_cons_succ]
      refine wpAny_take0 (i := 2) (v := .int .i64 (64 * (k : Int))) rfl rfl 19 rfl (by kernel_rfl) (by kernel_rfl) (by kernel_rfl) (fun _ _ _ h => h) (run_op_move _ rfl _ rfl) ?_
      simp only [Act.put, List.setIfInBounds_toArray, List.set_cons_zero, List.set_cons_succ]
      refine wpAny_take0 (i := 3) (v := .int .i64 (64 * (k : Int))) rfl rfl 20 rfl (by kernel_rfl) (by kernel_rfl) (by kernel_rfl) (fun _ _ _ h => h) (run_op_move _ rfl _ rfl) ?_
      simp only [Act.put, List.setIfInBounds_toArray, List.set_cons_zero, List.set_cons_succ]
      refine wpAny_take0 (i := 4) (v := .int .i64 (64 * (k : Int) + 64)) rfl rfl 21 rfl (by kernel_rfl) (by kernel_rfl) (by kernel_rfl) (fun _ _ _ h => h) (run_op_add _ _ _ _ rfl _ _ rfl rfl (IntWalk.i64_in _ (by omega))) ?_
      simp only [Act.put, List.setIfInBounds_toArray, List.set_cons_zero, List.set_cons_succ]
      refine wpAny_take0 (i := 5) (v := .slice (some ⟨g, 0 + 64 * k, none⟩) (64 * k + 64 - 64 * k) (qc - 64 * k)) rfl rfl 22 rfl (by kernel_rfl) (by kernel_rfl) (by kernel_rfl) (fun _ _ _ h => h) (run_op_slice2 _ _ _ _ rfl 5 (by kernel_rfl) (by kernel_rfl) g 0 _ _ rfl .i64 .i64 _ _ rfl rfl (64 * k) (64 * k + 64) (by omega) (by omega) (by omega) (by omega) (by omega)) ?_
      simp only [Act.put, List.setIfInBounds_toArray, List.set_cons_zero, List.set_cons_succ]
      refine wpAny_one (i := 0) (by kernel_rfl) (wpOp_value (v := .agg (u32s s.list).toArray) rfl rfl (run_op_load _ _ rfl H 0 rfl _ (hrh.range 0 _ (fun j v hj => by rw [Nat.zero_add]; exact hj)) (by rw [u32s_length, list_len]; exact sz40)) ?_)
      change wpAny _ _ _ _ _ _ (Act.put _ (some 17) _) _
      simp only [Act.put, List.setIfInBounds_toArray, List.set_cons_zero, List.set_cons_succ]
      rw [show 64 * k + 64 - 64 * k = 64 from by omega, show 0 + 64 * k = 64 * k from by omega]
      refine wpAny_one (i := 6) (by kernel_rfl) (wpOp_call 23 rfl rfl rfl (run_op_call 71 _ _ rfl #[.agg (u32s s.list).toArray, .slice (some ⟨g, 64 * k, none⟩) 64 (qc - 64 * k)] (by simp only [List.map_toArray, List.map_cons, List.map_nil]; rfl) Tryz.func71 (by kernel_rfl) (by kernel_rfl) wz) (block_any s blk g (64 * k) (qc - 64 * k) wz hbd hbl hbb hbr hSd.rk) ?_)
      rintro e w5 ⟨rfl, hN5⟩
      refine ⟨_, rfl, ?_⟩
      simp only [Act.put, List.setIfInBounds_toArray, List.set_cons_zero, List.set_cons_succ]
      refine wpAny_one (i := 7) (by kernel_rfl) (wpOp_skip rfl rfl rfl (run_op_store _ _ _ rfl H 0 rfl (u32s (comp s blk).list) rfl _ _ (hrh.old hN5) (by rw [u32s_length, list_len, u32s_length, list_len]; omega) (u32s_one _) (by rw [u32s_length, list_len]; exact sz40)) ?_)
      refine wpAny_done (by kernel_rfl) ?_ _
      have hR6 : Row (w5.setRow H (lay (u32s s.list) 0 (u32s (comp s blk).list)).toArray) H 142 (u32s (comp s blk).list) := (row_setRow (hrh.old hN5) _).congr (lay_all _ _ (by rw [u32s_length, list_len, u32s_length, list_len]))
      have hO6 : Only H wz (w5.setRow H (lay (u32s s.list) 0 (u32s (comp s blk).list)).toArray) := (Only.of_below H hN5).trans (Only.setRow _ _ _)
      generalize w5.setRow H (lay (u32s s.list) 0 (u32s (comp s blk).list)).toArray = w6 at hR6 hO6 ⊢
      have hk1z : 0 < wz.heap.size := by omega
      have hglt : g < wz.heap.size := range_lt hSd.rp (by intro h; have := congrArg List.length h; rw [u8s_length, HNL.out] at this; simp at this; omega)
      have hS6 : RfRel w bs R H g (k + 1) w6 := ⟨hSd.rr.only hO6 NRH.out, by rw [hfd.out]; exact hR6, range_block hSd.rp (hO6.block g hglt NHG.out), range_block hSd.rk (hO6.block _ hk1z (by omega)), below_only hSd.bel hO6 lH hwd⟩
      clear hR6 hO6 hN5 hSd hbr hrh
      go_wp2_with fail
      go_roundw
      case rel => exact ⟨k + 1, by omega, by go_num, hS6⟩
      case measure => simp [intOf]; omega
    · obtain rfl : k = N := by omega
      have hbd : Bd (fold64 k H0 (padded bs)) := fold64_bd _ _ _ H0_bd
      have hrh := hS.rh
      generalize fold64 k H0 (padded bs) = s at hbd hst hrh
      have hdg : Hid (digest bs = outOf s) := by unfold digest; rw [hst.out]; exact rfl
      have h1 : Row wr R 31 (u8s (List.replicate 32 0)) := hS.rr
      have hbel := hS.bel
      have hHl := hrh.lt
      have hRl := h1.lt
      clear hS hst hlt
      go_wp2_with (first
        | (refine arm_build (o := ⟨some 24, _, _, _, _, _⟩) rfl _ _ rfl zO (by kernel_rfl) ?_)
        | ((with_reducible refine arm_alloc (o := ⟨some 6, _, _, _, _, _⟩) rfl _ rfl _ z24 ?_); intro U w7 hU hR7 hN7)
        | ((with_reducible refine arm_store (o := ⟨none, _, _, _, _, _⟩) rfl _ _ _ rfl U 0 rfl zO rfl _ _ hR7 (by rw [zO_len, u8s_length, List.length_replicate]; omega) zO_one (by rw [zO_len]; exact sz24) ?_); intro w8 hR8 hO8 hS8))
      have eU := hU.out
      have nU1 : R ≠ U := by omega
      have nU2 : H ≠ U := by omega
      have lU : w.heap.size ≤ U := by omega
      have h0 : RoRel w s 0 R H U w8 := ⟨(h1.old hN7.below).only hO8 nU1, (hrh.old hN7.below).only hO8 nU2, hR8.congr (lay_all _ _ (by rw [zO_len, u8s_length, List.length_replicate])), below_only (below_step hbel hws hN7.below) hO8 lU (by have := hN7.size; omega)⟩
      have NU1 := Lib.hid nU1
      clear eU hU hR7 hN7 hR8 hO8 hS8 h1 hrh hbel hHl hRl nU1 w7
      have nU3 : ¬ U = H := fun h => nU2 h.symm
      go_loopw [7] (fun i wr => ∃ k : Nat, k ≤ 8 ∧ i = .int .i64 k ∧ RoRel w s k R H U wr) (fun i _ => 8 - (intOf i).toNat)
      case atStart => exact ⟨0, by omega, rfl, h0⟩
      case round =>
        clear h0
        obtain ⟨k', hk8, rfl, hS⟩ := hrel
        have hws : w.heap.size ≤ wr.heap.size := hS.bel.size
        by_cases hlt : k' < 8
        · have hbx := getD_lt (list_lt hbd) (by omega) k'
          have ch := hS.rh.cell (u32s_get (l := s.list) (i := k') (by rw [list_len]; exact hlt))
          have hstp : Hid (lay (u8s (fillO s k')) (4 * k') (u8s (bytes4 (s.list.getD k' 0))) = u8s (fillO s (k' + 1))) := Lib.hid (fillO_step s k' hlt)
          generalize s.list.getD k' 0 = x at hbx ch hstp
          have hfl : (u8s (fillO s k')).length = 32 := by rw [u8s_length, fillO_len s k' (by omega)]
          obtain ⟨v0, e0⟩ : ∃ v, (u8s (fillO s k'))[4 * k']? = some v := ⟨_, List.getElem?_eq_getElem (by omega)⟩
          obtain ⟨v1, e1⟩ : ∃ v, (u8s (fillO s k'))[4 * k' + 1]? = some v := ⟨_, List.getElem?_eq_getElem (by omega)⟩
          obtain ⟨v2, e2⟩ : ∃ v, (u8s (fillO s k'))[4 * k' + 2]? = some v := ⟨_, List.getElem?_eq_getElem (by omega)⟩
          obtain ⟨v3, e3⟩ : ∃ v, (u8s (fillO s k'))[4 * k' + 3]? = some v := ⟨_, List.getElem?_eq_getElem (by omega)⟩
          have c0 := hS.ru.cell e0
          have c1 := hS.ru.cell e1
          have c2 := hS.ru.cell e2
          have c3 := hS.ru.cell e3
          have f0 := hS.ru.frozen (4 * k')
          have f1 := hS.ru.frozen (4 * k' + 1)
          have f2 := hS.ru.frozen (4 * k' + 2)
          have f3 := hS.ru.frozen (4 * k' + 3)
          have HFL := Lib.hid hfl
          clear e0 e1 e2 e3 hfl
          go_wp2
          have hr4 := (((hS.ru.set (i := 4 * k') (.int .u8 ((x : Int) / 16777216))).set (i := 4 * k' + 1) (.int .u8 ((x : Int) / 65536 % 256))).set (i := 4 * k' + 2) (.int .u8 ((x : Int) / 256 % 256))).set (i := 4 * k' + 3) (.int .u8 ((x : Int) % 256))
          have ho4 : Only U wr ((((wr.setCell ⟨U, 4 * k', none⟩ (.int .u8 ((x : Int) / 16777216))).setCell ⟨U, 4 * k' + 1, none⟩ (.int .u8 ((x : Int) / 65536 % 256))).setCell ⟨U, 4 * k' + 2, none⟩ (.int .u8 ((x : Int) / 256 % 256))).setCell ⟨U, 4 * k' + 3, none⟩ (.int .u8 ((x : Int) % 256))) := (((Only.setCell U _ wr _).trans (Only.setCell U _ _ _)).trans (Only.setCell U _ _ _)).trans (Only.setCell U _ _ _)
          go_roundw
          case rel => exact ⟨k' + 1, by omega, by go_num, ⟨hS.rr.only ho4 NU1.out, hS.rh.only ho4 nU2, hr4.congr (by rw [lay4 _ _ _ _ _ _ (by rw [HFL.out]; omega), ← u8s_bytes4 x hbx]; exact hstp.out), below_only hS.bel ho4 lU hws⟩⟩
          case measure => simp [intOf]; omega
        · obtain rfl : k' = 8 := by omega
          go_wp2_with (first
            | (with_reducible refine arm_load (o := ⟨some 66, _, _, _, _, _⟩) rfl _ _ rfl U 0 rfl (u8s (fillO s 8)) (hS.ru.range 0 _ (fun j v hj => by rw [Nat.zero_add]; exact hj)) (by rw [u8s_length, fillO_len s 8 (by omega)]; exact sz24) ?_)
            | ((with_reducible refine arm_store (o := ⟨none, _, _, _, _, _⟩) rfl _ _ _ rfl R 0 rfl (u8s (fillO s 8)) rfl _ _ hS.rr (by rw [u8s_length, fillO_len s 8 (by omega), u8s_length, List.length_replicate]; omega) (u8s_one _) (by rw [u8s_length, fillO_len s 8 (by omega)]; exact sz24) ?_); intro w9 hR9 hO9 hS9))
          refine bodyPost_ret (v := .agg (u8s (fillO s 8)).toArray) (result_row (p := 2) (ty := 31) (u := 31) (by kernel_rfl) _ _ R _ rfl (hR9.congr (lay_all _ _ (by rw [u8s_length, u8s_length, fillO_len s 8 (by omega)]; simp))) (by rw [u8s_length, fillO_len s 8 (by omega)]; exact sz24)) rfl ⟨by rw [hdg.out, fillO_all], below_only hS.bel hO9 lR hws⟩
end Go.Proofs.YtnjmocobncncdaaGreatDoor.Sha
