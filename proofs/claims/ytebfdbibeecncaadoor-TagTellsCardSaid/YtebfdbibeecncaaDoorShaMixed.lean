/-
  The contract of sha's mixed: the eight numbers behind one block more, over this seat's translation.
-/
import Derived.Test.YtebfdbibeecncaaDoorShaMix
namespace Go.Proofs.YtebfdbibeecncaaDoor.Sha
open Go.ChangeShapes Go.WideShapes Go.ChangeAt Go.RowKit Go.Proofs.YtebfdbibeecncaaDoor.Num Go.Proofs.YtebfdbibeecncaaDoor.Mem Go.Proofs.YtebfdbibeecncaaDoor.Bt
set_option linter.unusedVariables false

/-- Eight numbers of 32 bits. -/
structure Bd (s : S8) : Prop where
  a : s.a < 4294967296
  b : s.b < 4294967296
  c : s.c < 4294967296
  d : s.d < 4294967296
  e : s.e < 4294967296
  f : s.f < 4294967296
  g : s.g < 4294967296
  h : s.h < 4294967296
theorem rnd_bd {s : S8} (h : Bd s) (k w : Nat) : Bd (rnd s k w) := ⟨Nat.mod_lt _ (by omega), h.a, h.b, h.c, Nat.mod_lt _ (by omega), h.e, h.f, h.g⟩
theorem rnds_bd {s : S8} (h : Bd s) (ks ws : List Nat) (t : Nat) : Bd (rnds ks ws s t) := by
  induction t with
  | zero => exact h
  | succ t ih => exact rnd_bd ih _ _
theorem plus_bd (s r : S8) : Bd (plus s r) := ⟨Nat.mod_lt _ (by omega), Nat.mod_lt _ (by omega), Nat.mod_lt _ (by omega), Nat.mod_lt _ (by omega), Nat.mod_lt _ (by omega), Nat.mod_lt _ (by omega), Nat.mod_lt _ (by omega), Nat.mod_lt _ (by omega)⟩
theorem comp_bd (s : S8) (l : List Nat) : Bd (comp s l) := plus_bd _ _
theorem H0_bd : Bd H0 := by constructor <;> decide
theorem ks_lt : AllLt 4294967296 ks := by unfold AllLt ks; decide
theorem list_len (s : S8) : s.list.length = 8 := rfl
theorem sched_len (l : List Nat) : (sched l).length = 64 := by unfold sched; rw [sch_len, wordsOf_len]
theorem sched_lt {l : List Nat} (h : AllLt 256 l) : AllLt 4294967296 (sched l) := sch_lt _ (wordsOf_lt h 16)

/-- What holds in the loop of mixed. -/
structure MxRel (w : World) (s : S8) (l : List Nat) (B2 B4 B5 : Nat) (wr : World) : Prop where
  r2 : Row wr B2 57 (u32s s.list)
  r4 : Row wr B4 57 (u32s (List.replicate 8 0))
  r5 : Row wr B5 65 (u32s (sched l))
  rk : wr.rangeAt 1 0 (u32s ks)
  bel : Below w.heap.size w wr
theorem MxRel.drewN {w : World} {s : S8} {l : List Nat} {B2 B4 B5 : Nat} {wr : World} (h : MxRel w s l B2 B4 B5 wr) (n : Nat) : MxRel w s l B2 B4 B5 (wr.drewN n) :=
  ⟨h.r2, h.r4, h.r5, h.rk, h.bel.trans (below_drewN _ _ _)⟩
/-- The eight slots. -/
def Slots (s : S8) (a b c d e f g h : Value) : Prop :=
  a = .int .u32 (s.a : Int) ∧ b = .int .u32 (s.b : Int) ∧ c = .int .u32 (s.c : Int) ∧ d = .int .u32 (s.d : Int) ∧ e = .int .u32 (s.e : Int) ∧ f = .int .u32 (s.f : Int) ∧ g = .int .u32 (s.g : Int) ∧ h = .int .u32 (s.h : Int)

theorem u32_congr {a b : Int} (h : a = b) : Value.int .u32 a = .int .u32 b := by rw [h]
theorem slots_rnd (a b c d e f g h k w x y z u : Nat) (hx : x = bg1 e) (hy : y = chs e f g) (hz : z = bg0 a) (hu : u = mjr a b c) : Slots (rnd ⟨a, b, c, d, e, f, g, h⟩ k w)
    (.int .u32 ((((h : Int) + (x : Int) + (y : Int) + (k : Int) + (w : Int)) % 4294967296 + ((z : Int) + (u : Int)) % 4294967296) % 4294967296)) (.int .u32 (a : Int)) (.int .u32 (b : Int)) (.int .u32 (c : Int))
    (.int .u32 (((d : Int) + ((h : Int) + (x : Int) + (y : Int) + (k : Int) + (w : Int)) % 4294967296) % 4294967296)) (.int .u32 (e : Int)) (.int .u32 (f : Int)) (.int .u32 (g : Int)) := by
  subst hx hy hz hu
  refine ⟨u32_congr ?_, rfl, rfl, rfl, u32_congr ?_, rfl, rfl, rfl⟩
  · show _ = (((h + bg1 e + chs e f g + k + w + (bg0 a + mjr a b c)) % 4294967296 : Nat) : Int)
    omega
  · show _ = (((d + (h + bg1 e + chs e f g + k + w)) % 4294967296 : Nat) : Int)
    omega
theorem plus_list (s r : S8) : (u32s (plus s r).list).toArray = #[.int .u32 (((s.a : Int) + (r.a : Int)) % 4294967296), .int .u32 (((s.b : Int) + (r.b : Int)) % 4294967296), .int .u32 (((s.c : Int) + (r.c : Int)) % 4294967296), .int .u32 (((s.d : Int) + (r.d : Int)) % 4294967296), .int .u32 (((s.e : Int) + (r.e : Int)) % 4294967296), .int .u32 (((s.f : Int) + (r.f : Int)) % 4294967296), .int .u32 (((s.g : Int) + (r.g : Int)) % 4294967296), .int .u32 (((s.h : Int) + (r.h : Int)) % 4294967296)] := rfl

set_option maxRecDepth 100000 in
theorem mixed_any (s : S8) (l : List Nat) (w : World) (hs : Bd s) (hl : l.length = 64) (hb : AllLt 256 l) (hk : w.rangeAt 1 0 (u32s ks)) :
    Calls Tryd.prog 26 #[.agg (u32s s.list).toArray, .agg (u8s l).toArray] w fun e w' => e = .returned (.agg (u32s (comp s l).list).toArray) ∧ Below w.heap.size w w' := by
  have HL := Lib.hid hl; clear hl
  have hk1 : 1 < w.heap.size := range_lt hk (by simp [u32s, ks])
  have HK := Lib.hid hk; clear hk
  go_enter Tryd.func26, Tryd.ntmps26
  go_wp2_with (first
    | ((with_reducible refine arm_box (o := ⟨some 2, _, _, _, _, _⟩) rfl _ _ rfl (u32s s.list) rfl ?_); intro B2 w1 hB2 hR2 hN1)
    | ((with_reducible refine arm_box (o := ⟨some 3, _, _, _, _, _⟩) rfl _ _ rfl (u8s l) rfl ?_); intro B3 w2 hB3 hR3 hN2)
    | ((with_reducible refine arm_alloc (o := ⟨some 4, _, _, _, _, _⟩) rfl _ rfl _ z40 ?_); intro B4 w3 hB4 hR4 hN3)
    | ((with_reducible refine arm_load (o := ⟨some 17, _, _, _, _, _⟩) rfl _ _ rfl B3 0 rfl (u8s l) ((hR3.old hN3.below).range 0 _ (fun j v hj => by rw [Nat.zero_add]; exact hj)) (by rw [u8s_length, HL.out]; exact sz42) ?_))
    | (go_at_call 29; (refine (spread_any l _ HL.out hb).mono ?_); rintro e w4 ⟨rfl, hN4⟩)
    | ((with_reducible refine arm_alloc (o := ⟨some 5, _, _, _, _, _⟩) rfl _ rfl _ z47 ?_); intro B5 w5 hB5 hR5 hN5)
    | ((with_reducible refine arm_store (o := ⟨none, _, _, _, _, _⟩) rfl _ _ _ rfl B5 0 rfl (u32s (sched l)) rfl _ _ hR5 (by rw [u32s_length, u32s_length, sched_len]; simp) (u32s_one _) (by rw [u32s_length, sched_len]; exact sz47) ?_); intro w6 hR6 hO6 hS6))
  have hb2 : B2 = w.heap.size := hB2.out
  have hb4 : B4 = w.heap.size + 2 := by have := hB4.out; have := hN1.size; have := hN2.size; omega
  have s3 : w3.heap.size = w.heap.size + 3 := by have := hN1.size; have := hN2.size; have := hN3.size; omega
  have s4 : w3.heap.size ≤ w4.heap.size := hN4.size
  have hb5 : B5 = w4.heap.size := hB5.out
  have l5 : w.heap.size ≤ B5 := by omega
  have bel6 : Below w.heap.size w w6 := below_only (below_step (below_step (below_step (below_step hN1.below (by rw [hN1.size]; omega) hN2.below) (by rw [hN2.size, hN1.size]; omega) hN3.below) (by omega) hN4) (by omega) hN5.below) hO6 l5 (by rw [hN5.size]; omega)
  have h0 : MxRel w s l B2 B4 B5 w6 := ⟨(((((hR2.old hN2.below).old hN3.below).old hN4).old hN5.below).only hO6 (by omega)), ((hR4.old hN4).old hN5.below).only hO6 (by omega), hR6.congr (lay_all _ _ (by rw [u32s_length, u32s_length, sched_len]; simp)), range_block HK.out (bel6.block _ hk1), bel6⟩
  have l4 : w.heap.size ≤ B4 := by omega
  clear hb2 hb4 hb5 s3 s4 hB2 hB3 hB4 hB5 hR2 hR3 hR4 hR5 hR6 hN1 hN2 hN3 hN4 hN5 hO6 hS6 l5 bel6 w1 w2 w3 w4 w5
  have c0 := h0.r2.cell (u32s_get (l := s.list) (i := 0) (by rw [list_len]; omega))
  have c1 := h0.r2.cell (u32s_get (l := s.list) (i := 1) (by rw [list_len]; omega))
  have c2 := h0.r2.cell (u32s_get (l := s.list) (i := 2) (by rw [list_len]; omega))
  have c3 := h0.r2.cell (u32s_get (l := s.list) (i := 3) (by rw [list_len]; omega))
  have c4 := h0.r2.cell (u32s_get (l := s.list) (i := 4) (by rw [list_len]; omega))
  have c5 := h0.r2.cell (u32s_get (l := s.list) (i := 5) (by rw [list_len]; omega))
  have c6 := h0.r2.cell (u32s_get (l := s.list) (i := 6) (by rw [list_len]; omega))
  have c7 := h0.r2.cell (u32s_get (l := s.list) (i := 7) (by rw [list_len]; omega))
  change w6.cell? _ = some (.int .u32 ((s.a : Nat) : Int)) at c0
  change w6.cell? _ = some (.int .u32 ((s.b : Nat) : Int)) at c1
  change w6.cell? _ = some (.int .u32 ((s.c : Nat) : Int)) at c2
  change w6.cell? _ = some (.int .u32 ((s.d : Nat) : Int)) at c3
  change w6.cell? _ = some (.int .u32 ((s.e : Nat) : Int)) at c4
  change w6.cell? _ = some (.int .u32 ((s.f : Nat) : Int)) at c5
  change w6.cell? _ = some (.int .u32 ((s.g : Nat) : Int)) at c6
  change w6.cell? _ = some (.int .u32 ((s.h : Nat) : Int)) at c7
  go_quiet (fail)
  have h1 := h0.drewN nq
  change (w6.drewN nq).cell? _ = _ at c4
  change (w6.drewN nq).cell? _ = _ at c5
  change (w6.drewN nq).cell? _ = _ at c6
  change (w6.drewN nq).cell? _ = _ at c7
  clear h0 c0 c1 c2 c3
  generalize w6.drewN nq = w7 at h1 c4 c5 c6 c7 ⊢
  clear nq w6
  go_wp2_with fail
  go_quiet (fail)
  have h2 := h1.drewN nq
  clear h1 c4 c5 c6 c7
  generalize w7.drewN nq = w8 at h2 ⊢
  clear nq w7
  go_wp2_with fail
  go_loopw [35, 6, 7, 8, 9, 10, 11, 12, 13] (fun i va vb vc vd ve vf vg vh wr => ∃ k : Nat, k ≤ 64 ∧ i = .int .i64 k ∧ Slots (rnds ks (sched l) s k) va vb vc vd ve vf vg vh ∧ MxRel w s l B2 B4 B5 wr) (fun i _ _ _ _ _ _ _ _ _ => 64 - (intOf i).toNat)
  case atStart => exact ⟨0, by omega, rfl, ⟨rfl, rfl, rfl, rfl, rfl, rfl, rfl, rfl⟩, h2⟩
  case round =>
    obtain ⟨k, hk, rfl, ⟨rfl, rfl, rfl, rfl, rfl, rfl, rfl, rfl⟩, hM⟩ := hrel
    clear h2
    have hrb := rnds_bd hs ks (sched l) k
    by_cases hlt : k < 64
    · have hR : Hid (rnds ks (sched l) s (k + 1) = rnd (rnds ks (sched l) s k) (ks.getD k 0) ((sched l).getD k 0)) := Lib.hid rfl
      generalize rnds ks (sched l) s k = r at hR hrb ⊢
      obtain ⟨ra, rb, rc, rd, re, rf, rg, rh⟩ := r
      obtain ⟨ba, bb, bc, bd, be, bf, bg, bh⟩ := hrb
      simp only at ba bb bc bd be bf bg bh
      have ck := hM.rk k _ (u32s_get (l := ks) (i := k) (by show k < 64; exact hlt))
      rw [Nat.zero_add] at ck
      have cw := hM.r5.cell (u32s_get (l := sched l) (i := k) (by rw [sched_len]; exact hlt))
      have bk := getD_lt ks_lt (by omega) k
      have bw := getD_lt (sched_lt hb) (by omega) k
      generalize ks.getD k 0 = xk at ck bk hR
      generalize (sched l).getD k 0 = xw at cw bw hR
      have b1 := bg1_lt be
      have b2 := chs_lt (y := rf) (z := rg) be
      have b3 := bg0_lt ba
      have b4 := mjr_lt (z := rc) ba bb
      go_wp2_with fail
      have ik : (k : Int) < 64 := by omega
      go_quiet (first | (go_at_call 30; exact Calls.quiet_of_same ((big1_any _ _ be).mono fun _ _ h => ⟨h.1, h.2.symm⟩)) | (go_at_call 31; exact Calls.quiet_of_same ((choice_any _ _ _ _ be bf bg).mono fun _ _ h => ⟨h.1, h.2.symm⟩)))
      have hM2 := hM.drewN nq
      clear hM ck cw
      generalize wr.drewN nq = w9 at hM2 ⊢
      go_wp2_with (first | (go_at_call 32; (refine (big0_any _ _ ba).mono ?_); rintro e w' ⟨rfl, rfl⟩) | (go_at_call 33; (refine (majority_any _ _ _ _ ba bb bc).mono ?_); rintro e w' ⟨rfl, rfl⟩))
      go_roundw
      case rel => exact ⟨k + 1, by omega, by go_num, by rw [hR.out]; exact slots_rnd ra rb rc rd re rf rg rh xk xw _ _ _ _ rfl rfl rfl rfl, hM2⟩
      case measure => simp [intOf]; omega
    · obtain rfl : k = 64 := by omega
      rw [show ((64 : Nat) : Int) = 64 from rfl]
      have c0 : wr.cell? ⟨B2, 0, none⟩ = some (.int .u32 ((s.a : Nat) : Int)) := hM.r2.cell (u32s_get (l := s.list) (i := 0) (by rw [list_len]; omega))
      have c1 : wr.cell? ⟨B2, 1, none⟩ = some (.int .u32 ((s.b : Nat) : Int)) := hM.r2.cell (u32s_get (l := s.list) (i := 1) (by rw [list_len]; omega))
      have c2 : wr.cell? ⟨B2, 2, none⟩ = some (.int .u32 ((s.c : Nat) : Int)) := hM.r2.cell (u32s_get (l := s.list) (i := 2) (by rw [list_len]; omega))
      have c3 : wr.cell? ⟨B2, 3, none⟩ = some (.int .u32 ((s.d : Nat) : Int)) := hM.r2.cell (u32s_get (l := s.list) (i := 3) (by rw [list_len]; omega))
      have c4 : wr.cell? ⟨B2, 4, none⟩ = some (.int .u32 ((s.e : Nat) : Int)) := hM.r2.cell (u32s_get (l := s.list) (i := 4) (by rw [list_len]; omega))
      have c5 : wr.cell? ⟨B2, 5, none⟩ = some (.int .u32 ((s.f : Nat) : Int)) := hM.r2.cell (u32s_get (l := s.list) (i := 5) (by rw [list_len]; omega))
      have c6 : wr.cell? ⟨B2, 6, none⟩ = some (.int .u32 ((s.g : Nat) : Int)) := hM.r2.cell (u32s_get (l := s.list) (i := 6) (by rw [list_len]; omega))
      have c7 : wr.cell? ⟨B2, 7, none⟩ = some (.int .u32 ((s.h : Nat) : Int)) := hM.r2.cell (u32s_get (l := s.list) (i := 7) (by rw [list_len]; omega))
      have hC : Hid (comp s l = plus s (rnds ks (sched l) s 64)) := Lib.hid rfl
      generalize rnds ks (sched l) s 64 = r at hC hrb ⊢
      have hws : w.heap.size ≤ wr.heap.size := hM.bel.size
      obtain ⟨sa, sb, sc, sd, se, sf, sg, sh⟩ := hs
      obtain ⟨ba, bb, bc, bd, be, bf, bg, bh⟩ := hrb
      go_wp2_with (first
        | ((with_reducible refine arm_store (o := ⟨none, _, _, _, _, _⟩) rfl _ _ _ rfl B4 0 rfl (u32s (plus s r).list) rfl _ _ hM.r4 (by rw [u32s_length, u32s_length, list_len]; simp) (u32s_one _) (by rw [u32s_length, list_len]; exact sz40) ?_); intro wf hrf hof hsf))
      refine bodyPost_ret (v := .agg (u32s (plus s r).list).toArray) (result_row (p := 4) (ty := 57) (u := 57) (by kernel_rfl) _ _ B4 _ rfl (hrf.congr (lay_all _ _ (by rw [u32s_length, u32s_length, list_len]; simp))) (by rw [u32s_length, list_len]; exact sz40)) rfl ⟨by rw [hC.out], below_only hM.bel hof l4 hws⟩
end Go.Proofs.YtebfdbibeecncaaDoor.Sha
