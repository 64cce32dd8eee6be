/-
  The contract of the document's answer for one block (block), over this seat's translation: the eight numbers behind it.
-/
import Derived.Test.YtebfdbibeecncaaDoorShaMixed
import Derived.Test.YtebfdbibeecncaaDoorShaRefLeaf
namespace Go.Proofs.YtebfdbibeecncaaDoor.Sha
open Go.ChangeShapes Go.WideShapes Go.ChangeAt Go.RowKit Go.Proofs.YtebfdbibeecncaaDoor.Num Go.Proofs.YtebfdbibeecncaaDoor.Mem Go.Proofs.YtebfdbibeecncaaDoor.Bt
set_option linter.unusedVariables false

theorem refSm0 (x : Nat) (w : World) (h : x < 4294967296) : Calls Tryd.prog 24 #[.int .u32 ((rotr 7 x : Nat) : Int), .int .u32 ((rotr 18 x : Nat) : Int), .int .u32 ((x : Int) / 8)] w fun e w' => e = .returned (.int .u32 ((sm0 x : Nat) : Int)) ∧ w = w' := by
  rw [show ((x : Int) / 8) = ((x / 8 : Nat) : Int) from by omega]
  exact refXor_any _ _ _ w (rotr_lt x 7 (by omega) h) (rotr_lt x 18 (by omega) h) (by omega)
theorem refSm1 (x : Nat) (w : World) (h : x < 4294967296) : Calls Tryd.prog 24 #[.int .u32 ((rotr 17 x : Nat) : Int), .int .u32 ((rotr 19 x : Nat) : Int), .int .u32 ((x : Int) / 1024)] w fun e w' => e = .returned (.int .u32 ((sm1 x : Nat) : Int)) ∧ w = w' := by
  rw [show ((x : Int) / 1024) = ((x / 1024 : Nat) : Int) from by omega]
  exact refXor_any _ _ _ w (rotr_lt x 17 (by omega) h) (rotr_lt x 19 (by omega) h) (by omega)
theorem refBg0 (x : Nat) (w : World) (h : x < 4294967296) : Calls Tryd.prog 24 #[.int .u32 ((rotr 2 x : Nat) : Int), .int .u32 ((rotr 13 x : Nat) : Int), .int .u32 ((rotr 22 x : Nat) : Int)] w fun e w' => e = .returned (.int .u32 ((bg0 x : Nat) : Int)) ∧ w = w' :=
  refXor_any _ _ _ w (rotr_lt x 2 (by omega) h) (rotr_lt x 13 (by omega) h) (rotr_lt x 22 (by omega) h)
theorem refBg1 (x : Nat) (w : World) (h : x < 4294967296) : Calls Tryd.prog 24 #[.int .u32 ((rotr 6 x : Nat) : Int), .int .u32 ((rotr 11 x : Nat) : Int), .int .u32 ((rotr 25 x : Nat) : Int)] w fun e w' => e = .returned (.int .u32 ((bg1 x : Nat) : Int)) ∧ w = w' :=
  refXor_any _ _ _ w (rotr_lt x 6 (by omega) h) (rotr_lt x 11 (by omega) h) (rotr_lt x 25 (by omega) h)
/-- The zeros of a composite value. -/
def zW : List Value := u32s (List.replicate 64 0)
theorem zW_len : zW.length = 64 := by unfold zW; rw [u32s_length, List.length_replicate]
theorem zW_one : OneCells zW := u32s_one _
/-- What holds in block's loops. -/
structure BlRel (w : World) (s : S8) (bs : List Nat) (g o B2 B4 B5 : Nat) (ws : List Nat) (wr : World) : Prop where
  r2 : Row wr B2 57 (u32s s.list)
  r4 : Row wr B4 57 (u32s (List.replicate 8 0))
  r5 : Row wr B5 65 (u32s (fillW ws))
  rb : wr.rangeAt g o (u8s bs)
  rk : wr.rangeAt 0 0 (u32s ks)
  bel : Below w.heap.size w wr
theorem BlRel.drewN {w : World} {s : S8} {bs : List Nat} {g o B2 B4 B5 : Nat} {ws : List Nat} {wr : World} (h : BlRel w s bs g o B2 B4 B5 ws wr) (n : Nat) : BlRel w s bs g o B2 B4 B5 ws (wr.drewN n) :=
  ⟨h.r2, h.r4, h.r5, h.rb, h.rk, h.bel.trans (below_drewN _ _ _)⟩
theorem BlRel.drew {w : World} {s : S8} {bs : List Nat} {g o B2 B4 B5 : Nat} {ws : List Nat} {wr : World} (h : BlRel w s bs g o B2 B4 B5 ws wr) : BlRel w s bs g o B2 B4 B5 ws wr.drew := h.drewN 1
theorem BlRel.step {w : World} {s : S8} {bs : List Nat} {g o B2 B4 B5 : Nat} {ws : List Nat} {wr : World} (h : BlRel w s bs g o B2 B4 B5 ws wr) (h2 : B2 ≠ B5) (h4 : B4 ≠ B5) (hg : g ≠ B5) (hk : 0 ≠ B5) (h5 : w.heap.size ≤ B5) (hl : ws.length < 64) (x : Nat) (i : Nat) (hi : i = ws.length) :
    BlRel w s bs g o B2 B4 B5 (ws ++ [x]) (wr.setCell ⟨B5, i, none⟩ (.int .u32 (x : Int))) := by
  have hs : w.heap.size ≤ wr.heap.size := h.bel.size
  have hO := Only.setCell B5 i wr (.int .u32 (x : Int))
  refine ⟨h.r2.only hO h2, h.r4.only hO h4, ?_, range_block h.rb (Below.heap_setCell _ _ _ _ hg), range_block h.rk (Below.heap_setCell _ _ _ _ hk), below_only h.bel hO h5 hs⟩
  subst hi
  exact (h.r5.set _).congr (set_fill ws x hl)

theorem slots_rnd2 (a b c d e f g h k w x y1 y2 z u : Nat) (hx : x = bg1 e) (hy : y1 + y2 = chs e f g) (hz : z = bg0 a) (hu : u = mjr a b c) : Slots (rnd ⟨a, b, c, d, e, f, g, h⟩ k w)
    (.int .u32 ((((h : Int) + (x : Int) + ((y1 : Int) + (y2 : Int)) + (k : Int) + (w : Int) + (z : Int)) % 4294967296 + (u : Int)) % 4294967296)) (.int .u32 (a : Int)) (.int .u32 (b : Int)) (.int .u32 (c : Int))
    (.int .u32 (((d : Int) + ((h : Int) + (x : Int) + ((y1 : Int) + (y2 : Int)) + (k : Int) + (w : Int)) % 4294967296) % 4294967296)) (.int .u32 (e : Int)) (.int .u32 (f : Int)) (.int .u32 (g : Int)) := by
  subst hx hz hu
  refine ⟨u32_congr ?_, rfl, rfl, rfl, u32_congr ?_, rfl, rfl, rfl⟩
  · show _ = (((h + bg1 e + chs e f g + k + w + (bg0 a + mjr a b c)) % 4294967296 : Nat) : Int)
    omega
  · show _ = (((d + (h + bg1 e + chs e f g + k + w)) % 4294967296 : Nat) : Int)
    omega
/-- What holds in block's last loop. -/
structure MxRel2 (w : World) (s : S8) (l : List Nat) (B2 B4 B5 : Nat) (wr : World) : Prop where
  r2 : Row wr B2 57 (u32s s.list)
  r4 : Row wr B4 57 (u32s (List.replicate 8 0))
  r5 : Row wr B5 65 (u32s (sched l))
  rk : wr.rangeAt 0 0 (u32s ks)
  bel : Below w.heap.size w wr
theorem MxRel2.drewN {w : World} {s : S8} {l : List Nat} {B2 B4 B5 : Nat} {wr : World} (h : MxRel2 w s l B2 B4 B5 wr) (n : Nat) : MxRel2 w s l B2 B4 B5 (wr.drewN n) :=
  ⟨h.r2, h.r4, h.r5, h.rk, h.bel.trans (below_drewN _ _ _)⟩

set_option maxHeartbeats 1600000 in
set_option maxRecDepth 100000 in
theorem block_any (s : S8) (bs : List Nat) (g o cap : Nat) (w : World) (hs : Bd s) (hl : bs.length = 64) (hb : AllLt 256 bs) (hr : w.rangeAt g o (u8s bs)) (hk : w.rangeAt 0 0 (u32s ks)) :
    Calls Tryd.prog 20 #[.agg (u32s s.list).toArray, .slice (some ⟨g, o, none⟩) 64 cap] w fun e w' => e = .returned (.agg (u32s (comp s bs).list).toArray) ∧ Below w.heap.size w w' := by
  have hk1 : 0 < w.heap.size := range_lt hk (by simp [u32s, ks])
  have hg1 : g < w.heap.size := range_lt hr (by intro h; have := congrArg List.length h; rw [u8s_length, hl] at this; simp at this)
  have HL := Lib.hid hl; clear hl
  have HK := Lib.hid hk; clear hk
  have HR := Lib.hid hr; clear hr
  go_enter Tryd.func20, Tryd.ntmps20
  go_wp2_with (first
    | ((with_reducible refine arm_box (o := ⟨some 2, _, _, _, _, _⟩) rfl _ _ rfl (u32s s.list) rfl ?_); intro B2 w1 hB2 hR2 hN1)
    | ((with_reducible refine arm_alloc (o := ⟨some 4, _, _, _, _, _⟩) rfl _ rfl _ z40 ?_); intro B4 w2 hB4 hR4 hN2)
    | (with_reducible refine arm_build (o := ⟨some 26, _, _, _, _, _⟩) rfl _ _ rfl zW (by kernel_rfl) ?_)
    | ((with_reducible refine arm_alloc (o := ⟨some 5, _, _, _, _, _⟩) rfl _ rfl _ z47 ?_); intro B5 w3 hB5 hR5 hN3)
    | ((with_reducible refine arm_store (o := ⟨none, _, _, _, _, _⟩) rfl _ _ _ rfl B5 0 rfl zW rfl _ _ hR5 (by rw [zW_len, u32s_length, List.length_replicate]; omega) zW_one (by rw [zW_len]; exact sz47) ?_); intro w4 hR6 hO6 hS6))
  have e2 := hB2.out; have e4 := hB4.out; have e5 := hB5.out; have z1 := hN1.size; have z2 := hN2.size; have z3 := hN3.size
  have l4 : w.heap.size ≤ B4 := by omega
  have l5 : w.heap.size ≤ B5 := by omega
  have n2 : B2 ≠ B5 := by omega
  have n4 : B4 ≠ B5 := by omega
  have ng : g ≠ B5 := by omega
  have nk : 0 ≠ B5 := by omega
  have bel4 : Below w.heap.size w w4 := below_only (below_step (below_step hN1.below (by omega) hN2.below) (by omega) hN3.below) hO6 l5 (by omega)
  have h0 : BlRel w s bs g o B2 B4 B5 (wordsOf bs 0) w4 := ⟨((hR2.old hN2.below).old hN3.below).only hO6 n2, (hR4.old hN3.below).only hO6 n4, hR6.congr (lay_all _ _ (by rw [zW_len, u32s_length, List.length_replicate])), range_block HR.out (bel4.block _ hg1), range_block HK.out (bel4.block _ hk1), bel4⟩
  have N2 := Lib.hid n2; have N4 := Lib.hid n4; have NG := Lib.hid ng; have NK := Lib.hid nk
  clear e2 e4 e5 z1 z2 z3 hB2 hB4 hB5 hR2 hR4 hR5 hR6 hN1 hN2 hN3 hO6 hS6 bel4 n2 n4 ng nk w1 w2 w3
  go_loopw [6] (fun i wr => ∃ k : Nat, k ≤ 16 ∧ i = .int .i64 k ∧ BlRel w s bs g o B2 B4 B5 (wordsOf bs k) wr) (fun i _ => 16 - (intOf i).toNat)
  case atStart => exact ⟨0, by omega, rfl, h0⟩
  case round =>
    obtain ⟨k, hk, rfl, hS⟩ := hrel
    clear h0
    by_cases hlt : k < 16
    · have hlen := HL.out
      have c0 := hS.rb (4 * k) _ (u8s_get (l := bs) (i := 4 * k) (by omega))
      have c1 := hS.rb (4 * k + 1) _ (u8s_get (l := bs) (i := 4 * k + 1) (by omega))
      have c2 := hS.rb (4 * k + 2) _ (u8s_get (l := bs) (i := 4 * k + 2) (by omega))
      have c3 := hS.rb (4 * k + 3) _ (u8s_get (l := bs) (i := 4 * k + 3) (by omega))
      have b0 := getD_lt hb (by omega) (4 * k)
      have b1 := getD_lt hb (by omega) (4 * k + 1)
      have b2 := getD_lt hb (by omega) (4 * k + 2)
      have b3 := getD_lt hb (by omega) (4 * k + 3)
      have hW : Hid (wordAt bs k = be4 (bs.getD (4 * k) 0) (bs.getD (4 * k + 1) 0) (bs.getD (4 * k + 2) 0) (bs.getD (4 * k + 3) 0)) := Lib.hid rfl
      generalize bs.getD (4 * k) 0 = x0 at c0 b0 hW
      generalize bs.getD (4 * k + 1) 0 = x1 at c1 b1 hW
      generalize bs.getD (4 * k + 2) 0 = x2 at c2 b2 hW
      generalize bs.getD (4 * k + 3) 0 = x3 at c3 b3 hW
      clear hlen
      obtain ⟨old, hold⟩ : ∃ v, (u32s (fillW (wordsOf bs k)))[k]? = some v := ⟨_, List.getElem?_eq_getElem (by rw [u32s_length, fill_len _ (by rw [wordsOf_len]; omega)]; omega)⟩
      have hcc := hS.r5.cell hold
      have hff := hS.r5.frozen k
      clear hold
      go_wp2_with fail
      obtain ⟨m0, hm0⟩ : ∃ m : Nat, m = 4 * k := ⟨_, rfl⟩
      obtain ⟨m1, hm1⟩ : ∃ m : Nat, m = 4 * k + 1 := ⟨_, rfl⟩
      obtain ⟨m2, hm2⟩ : ∃ m : Nat, m = 4 * k + 2 := ⟨_, rfl⟩
      obtain ⟨m3, hm3⟩ : ∃ m : Nat, m = 4 * k + 3 := ⟨_, rfl⟩
      have hw0 : IntKind.i64.wrap (4 * (k : Int)) = (m0 : Int) := by rw [IntWalk.i64_in _ (by omega)]; omega
      have hw1 : IntKind.i64.wrap ((m0 : Int) + 1) = (m1 : Int) := by rw [IntWalk.i64_in _ (by omega)]; omega
      have hw2 : IntKind.i64.wrap ((m0 : Int) + 2) = (m2 : Int) := by rw [IntWalk.i64_in _ (by omega)]; omega
      have hw3 : IntKind.i64.wrap ((m0 : Int) + 3) = (m3 : Int) := by rw [IntWalk.i64_in _ (by omega)]; omega
      have hl0 : (m0 : Int) < 64 := by omega
      have hl1 : (m1 : Int) < 64 := by omega
      have hl2 : (m2 : Int) < 64 := by omega
      have hl3 : (m3 : Int) < 64 := by omega
      rw [← hm0] at c0
      rw [← hm1] at c1
      rw [← hm2] at c2
      rw [← hm3] at c3
      clear hm0 hm1 hm2 hm3
      refine wp_region_still_tail 34 (by kernel_rfl) (by kernel_rfl) ?_
      simp only [List.take_succ_cons, List.take_zero, List.drop_succ_cons, List.drop_zero]
      iterate 34 still_step
      refine wpStill_nil ?_
      have hv : IntKind.u32.wrap (IntKind.u32.wrap (IntKind.u32.wrap (IntKind.u32.wrap (16777216 * IntKind.u32.wrap (x0 : Int)) + IntKind.u32.wrap (65536 * IntKind.u32.wrap (x1 : Int))) + IntKind.u32.wrap (256 * IntKind.u32.wrap (x2 : Int))) + IntKind.u32.wrap (x3 : Int)) = ((wordAt bs k : Nat) : Int) := by
        rw [hW.out]; unfold be4; simp only [IntKind.wrap_u32]; omega
      rw [hv]
      clear hv hw0 hw1 hw2 hw3 hl0 hl1 hl2 hl3 c0 c1 c2 c3
      change wpList _ _ _ _ _ wr.drew
      have hSd := hS.drew
      have hcc' : wr.drew.cell? ⟨B5, k, none⟩ = some old := hcc
      have hff' : wr.drew.frozen? ⟨B5, k, none⟩ = false := hff
      clear hcc hff hS
      generalize wr.drew = wz at hSd hcc' hff' ⊢
      go_wp2
      go_roundw
      case rel => exact ⟨k + 1, by omega, by go_num, by rw [wordsOf_succ]; exact hSd.step N2.out N4.out NG.out NK.out l5 (by rw [wordsOf_len]; omega) _ _ (wordsOf_len bs k).symm⟩
      case measure => simp [intOf]; omega
    · obtain rfl : k = 16 := by omega
      have h0 := hS
      clear hS hlt hk
      rw [show ((16 : Nat) : Int) = 16 from rfl]
      go_wp2_with fail
      go_loopw [7] (fun i wr => ∃ k : Nat, 16 ≤ k ∧ k ≤ 64 ∧ i = .int .i64 k ∧ BlRel w s bs g o B2 B4 B5 (sch (k - 16) (wordsOf bs 16)) wr) (fun i _ => 64 - (intOf i).toNat)
      case atStart => exact ⟨16, by omega, by omega, rfl, h0⟩
      case round =>
        obtain ⟨k, hk0, hk, rfl, hS⟩ := hrel
        clear h0
        have hln : (sch (k - 16) (wordsOf bs 16)).length = k := by rw [sch_len, wordsOf_len]; omega
        have hal : AllLt 4294967296 (sch (k - 16) (wordsOf bs 16)) := sch_lt _ (wordsOf_lt hb 16)
        by_cases hlt : k < 64
        · have hsw : sch (k + 1 - 16) (wordsOf bs 16) = sch (k - 16) (wordsOf bs 16) ++ [nextW (sch (k - 16) (wordsOf bs 16))] := by
            rw [show k + 1 - 16 = (k - 16) + 1 from by omega]; rfl
          generalize sch (k - 16) (wordsOf bs 16) = ws at hS hln hal hsw
          have c2 := hS.r5.cell (fill_get ws (k - 2) (by omega))
          have c7 := hS.r5.cell (fill_get ws (k - 7) (by omega))
          have c15 := hS.r5.cell (fill_get ws (k - 15) (by omega))
          have c16 := hS.r5.cell (fill_get ws (k - 16) (by omega))
          obtain ⟨old, hold⟩ : ∃ v, (u32s (fillW ws))[k]? = some v := ⟨_, List.getElem?_eq_getElem (by rw [u32s_length, fill_len _ (by omega)]; omega)⟩
          have hcc := hS.r5.cell hold
          have hff := hS.r5.frozen k
          have b2 := getD_lt hal (by omega) (k - 2)
          have b7 := getD_lt hal (by omega) (k - 7)
          have b15 := getD_lt hal (by omega) (k - 15)
          have b16 := getD_lt hal (by omega) (k - 16)
          have hnx : Hid (nextW ws = (sm1 (ws.getD (k - 2) 0) + ws.getD (k - 7) 0 + sm0 (ws.getD (k - 15) 0) + ws.getD (k - 16) 0) % 4294967296) := by
            unfold nextW; rw [hln]; exact rfl
          have HN := Lib.hid hln; have HW := Lib.hid hsw; clear hln hsw hold
          generalize ws.getD (k - 2) 0 = x2 at c2 b2 hnx
          generalize ws.getD (k - 7) 0 = x7 at c7 b7 hnx
          generalize ws.getD (k - 15) 0 = x15 at c15 b15 hnx
          generalize ws.getD (k - 16) 0 = x16 at c16 b16 hnx
          go_wp2_with (first
            | (go_at_call 25; (first | (with_reducible refine (refTurn_any x15 _ _ b15 (by omega) (by omega)).mono ?_) | (with_reducible refine (refTurn_any x2 _ _ b2 (by omega) (by omega)).mono ?_)); rintro e w' ⟨rfl, rfl⟩)
            | (go_at_call 24; (first | (with_reducible refine (refSm0 x15 _ b15).mono ?_) | (with_reducible refine (refSm1 x2 _ b2).mono ?_)); rintro e w' ⟨rfl, rfl⟩))
          have hw7 : IntKind.i64.wrap ((k : Int) - 7) = ((k - 7 : Nat) : Int) := by rw [IntWalk.i64_in _ (by omega)]; omega
          have hw16 : IntKind.i64.wrap ((k : Int) - 16) = ((k - 16 : Nat) : Int) := by rw [IntWalk.i64_in _ (by omega)]; omega
          have hl7 : ((k - 7 : Nat) : Int) < 64 := by omega
          have hl16 : ((k - 16 : Nat) : Int) < 64 := by omega
          refine wp_region_still_tail 14 (by kernel_rfl) (by kernel_rfl) ?_
          simp only [List.take_succ_cons, List.take_zero, List.drop_succ_cons, List.drop_zero]
          iterate 14 still_step
          refine wpStill_nil ?_
          have hv : IntKind.u32.wrap (IntKind.u32.wrap (IntKind.u32.wrap ((sm1 x2 : Int) + (x7 : Int)) + (sm0 x15 : Int)) + (x16 : Int)) = ((nextW ws : Nat) : Int) := by
            rw [hnx.out, IntKind.wrap_u32, IntKind.wrap_u32, IntKind.wrap_u32]; omega
          rw [hv]
          clear hv hw7 hw16 hl7 hl16
          change wpList _ _ _ _ _ wr.drew
          have hSd := hS.drew
          have hcc' : wr.drew.cell? ⟨B5, k, none⟩ = some old := hcc
          have hff' : wr.drew.frozen? ⟨B5, k, none⟩ = false := hff
          clear hcc hff c2 c7 c15 c16 hS
          generalize wr.drew = wz at hSd hcc' hff' ⊢
          go_wp2
          go_roundw
          case rel => exact ⟨k + 1, by omega, by omega, by go_num, by rw [HW.out]; exact hSd.step N2.out N4.out NG.out NK.out l5 (by rw [HN.out]; exact hlt) _ _ HN.out.symm⟩
          case measure => simp [intOf]; omega
        · obtain rfl : k = 64 := by omega
          have hfin : fillW (sch (64 - 16) (wordsOf bs 16)) = sched bs := by unfold fillW; rw [hln]; simp [sched]
          have h5 := hS.r5
          rw [hfin] at h5
          have h0 : MxRel2 w s bs B2 B4 B5 wr := ⟨hS.r2, hS.r4, h5, hS.rk, hS.bel⟩
          clear hS h5 hfin hln hal hlt hk hk0
          rw [show ((64 : Nat) : Int) = 64 from rfl]
          go_wp2_with fail
          have c0 : wr.cell? ⟨B2, 0, none⟩ = some (.int .u32 ((s.a : Nat) : Int)) := h0.r2.cell (u32s_get (l := s.list) (i := 0) (by rw [list_len]; omega))
          have c1 : wr.cell? ⟨B2, 1, none⟩ = some (.int .u32 ((s.b : Nat) : Int)) := h0.r2.cell (u32s_get (l := s.list) (i := 1) (by rw [list_len]; omega))
          have c2 : wr.cell? ⟨B2, 2, none⟩ = some (.int .u32 ((s.c : Nat) : Int)) := h0.r2.cell (u32s_get (l := s.list) (i := 2) (by rw [list_len]; omega))
          have c3 : wr.cell? ⟨B2, 3, none⟩ = some (.int .u32 ((s.d : Nat) : Int)) := h0.r2.cell (u32s_get (l := s.list) (i := 3) (by rw [list_len]; omega))
          have c4 : wr.cell? ⟨B2, 4, none⟩ = some (.int .u32 ((s.e : Nat) : Int)) := h0.r2.cell (u32s_get (l := s.list) (i := 4) (by rw [list_len]; omega))
          have c5 : wr.cell? ⟨B2, 5, none⟩ = some (.int .u32 ((s.f : Nat) : Int)) := h0.r2.cell (u32s_get (l := s.list) (i := 5) (by rw [list_len]; omega))
          have c6 : wr.cell? ⟨B2, 6, none⟩ = some (.int .u32 ((s.g : Nat) : Int)) := h0.r2.cell (u32s_get (l := s.list) (i := 6) (by rw [list_len]; omega))
          have c7 : wr.cell? ⟨B2, 7, none⟩ = some (.int .u32 ((s.h : Nat) : Int)) := h0.r2.cell (u32s_get (l := s.list) (i := 7) (by rw [list_len]; omega))
          go_quiet (fail)
          have h2 := h0.drewN nq
          clear h0 c0 c1 c2 c3 c4 c5 c6 c7
          generalize wr.drewN nq = w8 at h2 ⊢
          clear nq wr
          go_wp2_with fail
          go_loopw [20, 12, 13, 14, 15, 16, 17, 18, 19] (fun i va vb vc vd ve vf vg vh wr => ∃ k : Nat, k ≤ 64 ∧ i = .int .i64 k ∧ Slots (rnds ks (sched bs) s k) va vb vc vd ve vf vg vh ∧ MxRel2 w s bs B2 B4 B5 wr) (fun i _ _ _ _ _ _ _ _ _ => 64 - (intOf i).toNat)
          case atStart => exact ⟨0, by omega, rfl, ⟨rfl, rfl, rfl, rfl, rfl, rfl, rfl, rfl⟩, h2⟩
          case round =>
            obtain ⟨k, hk, rfl, ⟨rfl, rfl, rfl, rfl, rfl, rfl, rfl, rfl⟩, hM⟩ := hrel
            clear h2
            have hrb := rnds_bd hs ks (sched bs) k
            by_cases hlt : k < 64
            · have hR : Hid (rnds ks (sched bs) s (k + 1) = rnd (rnds ks (sched bs) s k) (ks.getD k 0) ((sched bs).getD k 0)) := Lib.hid rfl
              generalize rnds ks (sched bs) s k = r at hR hrb ⊢
              obtain ⟨ra, rb, rc, rd, re, rf, rg, rh⟩ := r
              obtain ⟨ba, bb, bc, bd, be, bf, bg, bh⟩ := hrb
              simp only at ba bb bc bd be bf bg bh
              have ck := hM.rk k _ (u32s_get (l := ks) (i := k) (by show k < 64; exact hlt))
              rw [Nat.zero_add] at ck
              have cw := hM.r5.cell (u32s_get (l := sched bs) (i := k) (by rw [sched_len]; exact hlt))
              have bk := getD_lt ks_lt (by omega) k
              have bw := getD_lt (sched_lt hb) (by omega) k
              generalize ks.getD k 0 = xk at ck bk hR
              generalize (sched bs).getD k 0 = xw at cw bw hR
              have hch := chs_add re rf rg be bf bg
              have g1 := u32_and_nat re rf be bf
              have g2 := u32_and_nat (4294967295 - re) rg (by omega) bg
              rw [show ((4294967295 - re : Nat) : Int) = 4294967295 - (re : Int) from by omega] at g2
              have g3 := u32_and_nat ra rb ba bb
              have g4 := u32_and_nat ra rc ba bc
              have g5 := u32_and_nat rb rc bb bc
              have g6 := u32_or_nat _ _ (and_lt (b := rb) ba) (and_lt (b := rc) ba)
              have g7 := u32_or_nat _ _ (or_lt (and_lt (b := rb) ba) (and_lt (b := rc) ba)) (and_lt (b := rc) bb)
              have hmj : Hid (((ra &&& rb) ||| (ra &&& rc)) ||| (rb &&& rc) = mjr ra rb rc) := Lib.hid rfl
              have q1 : re &&& rf < 4294967296 := and_lt be
              have q2 : (4294967295 - re) &&& rg < 4294967296 := and_lt (by omega)
              generalize re &&& rf = y1 at hch g1 q1
              generalize (4294967295 - re) &&& rg = y2 at hch g2 q2
              generalize ra &&& rb = y3 at g3 g6 g7 hmj
              generalize ra &&& rc = y4 at g4 g6 g7 hmj
              generalize rb &&& rc = y5 at g5 g7 hmj
              generalize y3 ||| y4 = y6 at g6 g7 hmj
              generalize y6 ||| y5 = y7 at g7 hmj
              have HCH := Lib.hid hch; clear hch
              have b1 := bg1_lt be
              have b2 := chs_lt (y := rf) (z := rg) be
              have b3 := bg0_lt ba
              have b4 := mjr_lt (z := rc) ba bb
              have q7 : y7 < 4294967296 := by rw [hmj.out]; exact b4
              go_wp2_with (first
                | (go_at_call 25; (with_reducible refine (refTurn_any re _ _ be (by omega) (by omega)).mono ?_); rintro e w' ⟨rfl, rfl⟩)
                | (go_at_call 24; (with_reducible refine (refBg1 re _ be).mono ?_); rintro e w' ⟨rfl, rfl⟩))
              have ik : (k : Int) < 64 := by omega
              go_quiet (fail)
              have hM2 := hM.drewN nq
              clear hM ck cw
              generalize wr.drewN nq = w9 at hM2 ⊢
              go_wp2_with (first
                | (go_at_call 25; (with_reducible refine (refTurn_any ra _ _ ba (by omega) (by omega)).mono ?_); rintro e w' ⟨rfl, rfl⟩)
                | (go_at_call 24; (with_reducible refine (refBg0 ra _ ba).mono ?_); rintro e w' ⟨rfl, rfl⟩))
              go_roundw
              case rel => exact ⟨k + 1, by omega, by go_num, by rw [hR.out]; exact slots_rnd2 ra rb rc rd re rf rg rh xk xw _ _ _ _ _ rfl HCH.out rfl hmj.out, hM2⟩
              case measure => simp [intOf]; omega
            · obtain rfl : k = 64 := by omega
              rw [show ((64 : Nat) : Int) = 64 from rfl]
              have c0 : wr.cell? ⟨B2, 0, none⟩ = some (.int .u32 ((s.a : Nat) : Int)) := hM.r2.cell (u32s_get (l := s.list) (i := 0) (by rw [list_len]; omega))
              have c1 : wr.cell? ⟨B2, 1, none⟩ = some (.int .u32 ((s.b : Nat) : Int)) := hM.r2.cell (u32s_get (l := s.list) (i := 1) (by rw [list_len]; omega))
              have c2 : wr.cell? ⟨B2, 2, none⟩ = some (.int .u32 ((s.c : Nat) : Int)) := hM.r2.cell (u32s_get (l := s.list) (i := 2) (by rw [list_len]; omega))
              have c3 : wr.cell? ⟨B2, 3, none⟩ = some (.int .u32 ((s.d : Nat) : Int)) := hM.r2.cell (u32s_get (l := s.list) (i := 3) (by rw [list_len]; omega))
              have c4 : wr.cell? ⟨B2, 4, none⟩ = some (.int .u32 ((s.e : Nat) : Int)) := hM.r2.cell (u32s_get (l := s.list) (i := 4) (by rw [list_len]; omega))
              have c5 : wr.cell? ⟨B2, 5, none⟩ = some (.int .u32 ((s.f : Nat) : Int)) := hM.r2.cell (u32s_get (l := s.list) (i := 5) (by rw [list_len]; omega))
              have c6 : wr.cell? ⟨B2, 6, none⟩ = some (.int .u32 ((s.g : Nat) : Int)) := hM.r2.cell (u32s_get (l := s.list) (i := 6) (by rw [list_len]; omega))
              have c7 : wr.cell? ⟨B2, 7, none⟩ = some (.int .u32 ((s.h : Nat) : Int)) := hM.r2.cell (u32s_get (l := s.list) (i := 7) (by rw [list_len]; omega))
              have hC : Hid (comp s bs = plus s (rnds ks (sched bs) s 64)) := Lib.hid rfl
              generalize rnds ks (sched bs) s 64 = r at hC hrb ⊢
              have hws : w.heap.size ≤ wr.heap.size := hM.bel.size
              obtain ⟨sa, sb, sc, sd, se, sf, sg, sh⟩ := hs
              obtain ⟨ba, bb, bc, bd, be, bf, bg, bh⟩ := hrb
              go_wp2_with (first
                | ((with_reducible refine arm_store (o := ⟨none, _, _, _, _, _⟩) rfl _ _ _ rfl B4 0 rfl (u32s (plus s r).list) rfl _ _ hM.r4 (by rw [u32s_length, u32s_length, list_len]; simp) (u32s_one _) (by rw [u32s_length, list_len]; exact sz40) ?_); intro wf hrf hof hsf))
              refine bodyPost_ret (v := .agg (u32s (plus s r).list).toArray) (result_row (p := 4) (ty := 57) (u := 57) (by kernel_rfl) _ _ B4 _ rfl (hrf.congr (lay_all _ _ (by rw [u32s_length, u32s_length, list_len]; simp))) (by rw [u32s_length, list_len]; exact sz40)) rfl ⟨by rw [hC.out], below_only hM.bel hof l4 hws⟩
end Go.Proofs.YtebfdbibeecncaaDoor.Sha
