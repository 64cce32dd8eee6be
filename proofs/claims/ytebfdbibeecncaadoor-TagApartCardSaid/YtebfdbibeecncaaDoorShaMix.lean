/-
  The contracts of sha's two functions on one block: spread (the sixty-four numbers of a block) and mixed (the eight numbers behind it), over this seat's translation.
-/
import Derived.Test.YtebfdbibeecncaaDoorShaLeaf
import Derived.StillTailTactics
namespace Go.Proofs.YtebfdbibeecncaaDoor.Sha
open Go.ChangeShapes Go.WideShapes Go.ChangeAt Go.RowKit Go.Proofs.YtebfdbibeecncaaDoor.Num Go.Proofs.YtebfdbibeecncaaDoor.Mem Go.Proofs.YtebfdbibeecncaaDoor.Bt
set_option linter.unusedVariables false

theorem z47 : Mem.Zero Tryd.prog 65 (u32s (List.replicate 64 0)) := by unfold Mem.Zero; kernel_rfl
theorem sz47 : Sized Tryd.prog 65 64 := ⟨.array 64 47, by kernel_rfl, rfl, by kernel_rfl⟩
theorem sz42 : Sized Tryd.prog 68 64 := ⟨.array 64 5, by kernel_rfl, rfl, by kernel_rfl⟩
theorem sz40 : Sized Tryd.prog 57 8 := ⟨.array 8 47, by kernel_rfl, rfl, by kernel_rfl⟩
theorem z40 : Mem.Zero Tryd.prog 57 (u32s (List.replicate 8 0)) := by unfold Mem.Zero; kernel_rfl

/-- The numbers so far, and zeros. -/
def fillW (w : List Nat) : List Nat := w ++ List.replicate (64 - w.length) 0
theorem set_fill (w : List Nat) (x : Nat) (h : w.length < 64) : (u32s (fillW w)).set w.length (.int .u32 (x : Int)) = u32s (fillW (w ++ [x])) := by
  unfold fillW
  rw [show 64 - w.length = (63 - w.length) + 1 from by omega, List.replicate_succ, List.length_append, List.length_singleton, show 64 - (w.length + 1) = 63 - w.length from by omega]
  simp [u32s]
theorem fill_get (w : List Nat) (i : Nat) (h : i < w.length) : (u32s (fillW w))[i]? = some (.int .u32 ((w.getD i 0 : Nat) : Int)) := by
  unfold fillW
  rw [u32s_append, List.getElem?_append_left (by rw [u32s_length]; exact h), u32s_get h]
theorem fill_len (w : List Nat) (h : w.length ≤ 64) : (fillW w).length = 64 := by unfold fillW; simp; omega
theorem wordsOf_succ (l : List Nat) (k : Nat) : wordsOf l (k + 1) = wordsOf l k ++ [wordAt l k] := by simp [wordsOf, List.range_succ]
theorem wordsOf_len (l : List Nat) (k : Nat) : (wordsOf l k).length = k := by simp [wordsOf]
theorem sch_len (n : Nat) (w : List Nat) : (sch n w).length = w.length + n := by
  induction n with
  | zero => rfl
  | succ n ih => simp [sch, ih]; omega
theorem wordsOf_lt {l : List Nat} (h : AllLt 256 l) (k : Nat) : AllLt 4294967296 (wordsOf l k) := by
  intro x hx
  simp only [wordsOf, List.mem_map] at hx
  obtain ⟨t, _, rfl⟩ := hx
  exact be4_lt (getD_lt h (by omega) _) (getD_lt h (by omega) _) (getD_lt h (by omega) _) (getD_lt h (by omega) _)
theorem sch_lt (n : Nat) {w : List Nat} (h : AllLt 4294967296 w) : AllLt 4294967296 (sch n w) := by
  induction n with
  | zero => exact h
  | succ n ih =>
    intro x hx
    simp only [sch, List.mem_append, List.mem_singleton] at hx
    rcases hx with hx | rfl
    · exact ih x hx
    · exact Nat.mod_lt _ (by omega)

/-- What holds in spread's two loops: its own block and the block of numbers. -/
structure SpRel (w : World) (l : List Nat) (B1 B2 B3 : Nat) (ws : List Nat) (wr : World) : Prop where
  r1 : Row wr B1 68 (u8s l)
  r2 : Row wr B2 65 (u32s (List.replicate 64 0))
  r3 : Row wr B3 65 (u32s (fillW ws))
  bel : Below w.heap.size w wr
theorem SpRel.step {w : World} {l : List Nat} {B1 B2 B3 : Nat} {ws : List Nat} {wr wx : World} (h : SpRel w l B1 B2 B3 ws wr) (hb : Below wr.heap.size wr wx) (h1 : B1 ≠ B3) (h2 : B2 ≠ B3) (h3 : w.heap.size ≤ B3) (hl : ws.length < 64) (x : Nat) (i : Nat) (hi : i = ws.length) :
    SpRel w l B1 B2 B3 (ws ++ [x]) (wx.setCell ⟨B3, i, none⟩ (.int .u32 (x : Int))) := by
  have hs : w.heap.size ≤ wr.heap.size := h.bel.size
  refine ⟨((h.r1.old hb).only (Only.setCell B3 _ _ _) h1), (h.r2.old hb).only (Only.setCell B3 _ _ _) h2, ?_, below_only (below_step h.bel hs hb) (Only.setCell B3 _ _ _) h3 (Nat.le_trans hs hb.size)⟩
  subst hi
  exact ((h.r3.old hb).set _).congr (set_fill ws x hl)
set_option maxRecDepth 100000 in
theorem spread_any (l : List Nat) (w : World) (hl : l.length = 64) (hb : AllLt 256 l) :
    Calls Tryd.prog 29 #[.agg (u8s l).toArray] w fun e w' => e = .returned (.agg (u32s (sched l)).toArray) ∧ Below w.heap.size w w' := by
  have HL := Lib.hid hl; clear hl
  go_enter Tryd.func29, Tryd.ntmps29
  go_wp2_with (first
    | ((with_reducible refine arm_box (o := ⟨some 1, _, _, _, _, _⟩) rfl _ _ rfl (u8s l) rfl ?_); intro B1 w1 hB1 hR1 hN1)
    | ((with_reducible refine arm_alloc (o := ⟨some 2, _, _, _, _, _⟩) rfl _ rfl _ z47 ?_); intro B2 w2 hB2 hR2 hN2)
    | ((with_reducible refine arm_alloc (o := ⟨some 3, _, _, _, _, _⟩) rfl _ rfl _ z47 ?_); intro B3 w3 hB3 hR3 hN3))
  have hb1 : B1 = w.heap.size := hB1.out
  have hb2 : B2 = w.heap.size + 1 := by have := hB2.out; have := hN1.size; omega
  have hb3 : B3 = w.heap.size + 2 := by have := hB3.out; have := hN1.size; have := hN2.size; omega
  have n13 : B1 ≠ B3 := by omega
  have n23 : B2 ≠ B3 := by omega
  have l3 : w.heap.size ≤ B3 := by omega
  have n12 : w.heap.size ≤ B2 := by omega
  have h0 : SpRel w l B1 B2 B3 (wordsOf l 0) w3 := ⟨(hR1.old hN2.below).old hN3.below, hR2.old hN3.below, hR3, below_step (below_step hN1.below (by rw [hN1.size]; omega) hN2.below) (by rw [hN2.size, hN1.size]; omega) hN3.below⟩
  clear hb1 hb2 hb3 hB1 hB2 hB3 hR1 hR2 hR3 hN1 hN2 hN3 w1 w2
  have L2 := Lib.hid n12; clear n12
  have N13 := Lib.hid n13; clear n13
  have N23 := Lib.hid n23; clear n23
  go_loopw [6] (fun i wr => ∃ k : Nat, k ≤ 16 ∧ i = .int .i64 k ∧ SpRel w l B1 B2 B3 (wordsOf l k) wr) (fun i _ => 16 - (intOf i).toNat)
  case atStart => exact ⟨0, by omega, rfl, h0⟩
  case round =>
    obtain ⟨k, hk, rfl, hS⟩ := hrel
    clear h0
    by_cases hlt : k < 16
    · have hlen := HL.out
      have c0 := hS.r1.cell (u8s_get (l := l) (i := 4 * k) (by omega))
      have c1 := hS.r1.cell (u8s_get (l := l) (i := 4 * k + 1) (by omega))
      have c2 := hS.r1.cell (u8s_get (l := l) (i := 4 * k + 2) (by omega))
      have c3 := hS.r1.cell (u8s_get (l := l) (i := 4 * k + 3) (by omega))
      clear hlen
      have C0 := Lib.hid c0; have C1 := Lib.hid c1; have C2 := Lib.hid c2; have C3 := Lib.hid c3; clear c0 c1 c2 c3
      obtain ⟨old, hold⟩ : ∃ v, (u32s (fillW (wordsOf l k)))[k]? = some v := ⟨_, List.getElem?_eq_getElem (by rw [u32s_length, fill_len _ (by rw [wordsOf_len]; omega)]; omega)⟩
      have HO := Lib.hid hold; clear hold
      go_wp2_with (first
        | ((with_reducible refine arm_sliceLow (o := ⟨some 12, _, _, _, _, _⟩) rfl _ _ _ rfl 64 5 (by kernel_rfl) (by kernel_rfl) B1 0 rfl .i64 _ rfl (4 * k) (by omega) (by omega) ?_))
        | (go_at_call 35; (refine (word_any _ _ _ _ _ _ _ _ _ (by omega) (by omega) C0.out C1.out C2.out C3.out (getD_lt hb (by omega) _) (getD_lt hb (by omega) _) (getD_lt hb (by omega) _) (getD_lt hb (by omega) _)).mono ?_); rintro e w' ⟨rfl, hbw⟩; have hcc := (hS.r3.old hbw).cell HO.out; have hff := (hS.r3.old hbw).frozen k))
      go_roundw
      case rel => exact ⟨k + 1, by omega, by go_num, by rw [wordsOf_succ]; exact hS.step hbw N13.out N23.out l3 (by rw [wordsOf_len]; omega) _ _ (wordsOf_len l k).symm⟩
      case measure => simp [intOf]; omega
    · obtain rfl : k = 16 := by omega
      have h0 := hS
      clear hS hlt hk
      rw [show ((16 : Nat) : Int) = 16 from rfl]
      go_wp2_with fail
      go_loopw [5] (fun i wr => ∃ k : Nat, 16 ≤ k ∧ k ≤ 64 ∧ i = .int .i64 k ∧ SpRel w l B1 B2 B3 (sch (k - 16) (wordsOf l 16)) wr) (fun i _ => 64 - (intOf i).toNat)
      case atStart => exact ⟨16, by omega, by omega, rfl, h0⟩
      case round =>
        obtain ⟨k, hk0, hk, rfl, hS⟩ := hrel
        clear h0
        have hln : (sch (k - 16) (wordsOf l 16)).length = k := by rw [sch_len, wordsOf_len]; omega
        have hal : AllLt 4294967296 (sch (k - 16) (wordsOf l 16)) := sch_lt _ (wordsOf_lt hb 16)
        by_cases hlt : k < 64
        · have hsw : sch (k + 1 - 16) (wordsOf l 16) = sch (k - 16) (wordsOf l 16) ++ [nextW (sch (k - 16) (wordsOf l 16))] := by
            rw [show k + 1 - 16 = (k - 16) + 1 from by omega]; rfl
          generalize sch (k - 16) (wordsOf l 16) = ws at hS hln hal hsw
          have c2 := hS.r3.cell (fill_get ws (k - 2) (by omega))
          have c7 := hS.r3.cell (fill_get ws (k - 7) (by omega))
          have c15 := hS.r3.cell (fill_get ws (k - 15) (by omega))
          have c16 := hS.r3.cell (fill_get ws (k - 16) (by omega))
          obtain ⟨old, hold⟩ : ∃ v, (u32s (fillW ws))[k]? = some v := ⟨_, List.getElem?_eq_getElem (by rw [u32s_length, fill_len _ (by omega)]; omega)⟩
          have hcc := hS.r3.cell hold
          have hff := hS.r3.frozen k
          have b2 := getD_lt hal (by omega) (k - 2)
          have b7 := getD_lt hal (by omega) (k - 7)
          have b15 := getD_lt hal (by omega) (k - 15)
          have b16 := getD_lt hal (by omega) (k - 16)
          have hnx : Hid (nextW ws = (sm1 (ws.getD (k - 2) 0) + ws.getD (k - 7) 0 + sm0 (ws.getD (k - 15) 0) + ws.getD (k - 16) 0) % 4294967296) := by
            unfold nextW; rw [hln]; exact rfl
          have HN := Lib.hid hln; have HW := Lib.hid hsw; clear hln hsw hold
          generalize hx2 : ws.getD (k - 2) 0 = x2 at c2 b2 hnx
          generalize hx7 : ws.getD (k - 7) 0 = x7 at c7 b7 hnx
          generalize hx15 : ws.getD (k - 15) 0 = x15 at c15 b15 hnx
          generalize hx16 : ws.getD (k - 16) 0 = x16 at c16 b16 hnx
          clear hx2 hx7 hx15 hx16
          go_wp2_with fail
          have hw2 : IntKind.i64.wrap ((k : Int) - 2) = ((k - 2 : Nat) : Int) := by rw [IntWalk.i64_in _ (by omega)]; omega
          have hw7 : IntKind.i64.wrap ((k : Int) - 7) = ((k - 7 : Nat) : Int) := by rw [IntWalk.i64_in _ (by omega)]; omega
          have hw15 : IntKind.i64.wrap ((k : Int) - 15) = ((k - 15 : Nat) : Int) := by rw [IntWalk.i64_in _ (by omega)]; omega
          have hw16 : IntKind.i64.wrap ((k : Int) - 16) = ((k - 16 : Nat) : Int) := by rw [IntWalk.i64_in _ (by omega)]; omega
          have hl2 : ((k - 2 : Nat) : Int) < 64 := by omega
          have hl7 : ((k - 7 : Nat) : Int) < 64 := by omega
          have hl15 : ((k - 15 : Nat) : Int) < 64 := by omega
          have hl16 : ((k - 16 : Nat) : Int) < 64 := by omega
          refine wp_region_still_tail 22 (by kernel_rfl) (by kernel_rfl) ?_
          simp only [List.take_succ_cons, List.take_zero, List.drop_succ_cons, List.drop_zero]
          iterate 5 still_step
          still_call ((small1_any x2 _ b2).mono (fun e w' h => ⟨h.1, h.2.symm⟩))
          iterate 9 still_step
          still_call ((small0_any x15 _ b15).mono (fun e w' h => ⟨h.1, h.2.symm⟩))
          iterate 6 still_step
          refine wpStill_nil ?_
          have hv : IntKind.u32.wrap (IntKind.u32.wrap (IntKind.u32.wrap ((sm1 x2 : Int) + (x7 : Int)) + (sm0 x15 : Int)) + (x16 : Int)) = ((nextW ws : Nat) : Int) := by
            rw [hnx.out, IntKind.wrap_u32, IntKind.wrap_u32, IntKind.wrap_u32]; omega
          rw [hv]
          clear hv hw2 hw7 hw15 hw16 hl2 hl7 hl15 hl16
          change wpList _ _ _ _ _ wr.drew
          have hbd : Below wr.heap.size wr wr.drew := (Below.refl _ _).drew
          have hcc' : wr.drew.cell? ⟨B3, k, none⟩ = some old := hcc
          have hff' : wr.drew.frozen? ⟨B3, k, none⟩ = false := hff
          clear hcc hff c2 c7 c15 c16
          generalize wr.drew = wz at hbd hcc' hff' ⊢
          go_wp2
          go_roundw
          case rel => exact ⟨k + 1, by omega, by omega, by go_num, by rw [HW.out]; exact hS.step hbd N13.out N23.out l3 (by rw [HN.out]; exact hlt) _ _ HN.out.symm⟩
          case measure => simp [intOf]; omega
        · obtain rfl : k = 64 := by omega
          have hfin : fillW (sch (64 - 16) (wordsOf l 16)) = sched l := by unfold fillW; rw [hln]; simp [sched]
          have hr3 := hS.r3
          rw [hfin] at hr3
          have hsl : (sched l).length = 64 := by unfold sched; rw [sch_len, wordsOf_len]
          have hr2 := hS.r2
          have hbel := hS.bel
          have n12 : w.heap.size ≤ B2 := L2.out
          have hws : w.heap.size ≤ wr.heap.size := hbel.size
          have HSL := Lib.hid hsl
          clear hln hal hfin hS hsl
          go_wp2_with (first
            | ((with_reducible refine arm_load (o := ⟨some 43, _, _, _, _, _⟩) rfl _ _ rfl B3 0 rfl (u32s (sched l)) (hr3.range 0 _ (fun j v hj => by rw [Nat.zero_add]; exact hj)) (by rw [u32s_length, HSL.out]; exact sz47) ?_))
            | ((with_reducible refine arm_store (o := ⟨none, _, _, _, _, _⟩) rfl _ _ _ rfl B2 0 rfl (u32s (sched l)) rfl _ _ hr2 (by rw [u32s_length, u32s_length, HSL.out]; simp) (u32s_one _) (by rw [u32s_length, HSL.out]; exact sz47) ?_); intro wf hrf hof hsf))
          refine bodyPost_ret (v := .agg (u32s (sched l)).toArray) (result_row (p := 2) (ty := 65) (u := 65) (by kernel_rfl) _ _ B2 _ rfl (hrf.congr (lay_all _ _ (by rw [u32s_length, u32s_length, HSL.out]; simp))) (by rw [u32s_length, HSL.out]; exact sz47)) rfl ⟨rfl, below_only hbel hof n12 hws⟩
end Go.Proofs.YtebfdbibeecncaaDoor.Sha
