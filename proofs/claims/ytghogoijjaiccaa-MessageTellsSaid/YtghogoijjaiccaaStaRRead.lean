/-
  The contracts of the document's back and Read of layer 9, over this seat's translation.
-/
import Derived.Test.YtghogoijjaiccaaStaMade
import Derived.Test.YtghogoijjaiccaaStaRRight
import Derived.Test.YtghogoijjaiccaaStaDo
import Derived.Test.YtghogoijjaiccaaWireRefAll
namespace Go.Proofs.Ytghogoijjaiccaa.Sa
open Go.ChangeShapes Go.WideShapes Go.ChangeAt Go.RowKit Go.Proofs.Ytghogoijjaiccaa.Mem Go.Proofs.Ytghogoijjaiccaa.Bt Go.Proofs.Ytghogoijjaiccaa.Wi Go.Proofs.Ytghogoijjaiccaa.Tg Go.Proofs.Ytghogoijjaiccaa.Rg
open Go.Proofs.Ytghogoijjaiccaa.Ep (H32 Dat zh zh_ok num32 dcs dcs_len dcs_one zd zd_ok Has h_len one_app one_num szH set_lay z_rdat sz_rdat)
set_option linter.unusedVariables false
set_option linter.unusedSimpArgs false

def mC (s : Sta) (i n : Nat) : List Value := (List.range' i n).flatMap (fC s)
theorem mC_step (s : Sta) (i n : Nat) : mC s i (n + 1) = fC s i ++ mC s (i + 1) n := by unfold mC; rw [List.range'_succ, List.flatMap_cons]
theorem dC_many (s : Sta) : ∀ (n i : Nat), i + n ≤ 22 → dC s i = mC s i n ++ dC s (i + n)
  | 0, i, h => rfl
  | n + 1, i, h => by
    rw [dC_step (by omega), mC_step, dC_many s n (i + 1) (by omega), List.append_assoc, show i + 1 + n = i + (n + 1) by omega]
theorem cP_many (s : Sta) : ∀ (n i : Nat), cP s (i + n) = cP s i ++ mC s i n
  | 0, i => by rw [show mC s i 0 = [] from rfl, List.append_nil]; rfl
  | n + 1, i => by
    rw [mC_step, ← List.append_assoc, show cP s i ++ fC s i = cP s (i + 1) from rfl, ← cP_many s n (i + 1), show i + 1 + n = i + (n + 1) by omega]
theorem mC_len {s z : Sta} (k : s.Ok) (j : z.Ok) : ∀ (n i : Nat), (mC s i n).length = (mC z i n).length
  | 0, i => rfl
  | n + 1, i => by rw [mC_step, mC_step, List.length_append, List.length_append, fC_len k, fC_len j, mC_len k j n (i + 1)]
theorem mix_many {s z : Sta} (k : s.Ok) (j : z.Ok) (i n : Nat) (h : i + n ≤ 22) (vs : List Value) (hv : vs = mC s i n) (o : Nat) (ho : o = off i) : lay (mixC s z i) o vs = mixC s z (i + n) := by
  subst hv ho
  unfold mixC
  rw [dC_many z n i h]
  have h1 : lay (cP s i ++ (mC z i n ++ dC z (i + n))) (off i) (mC s i n) = cP s i ++ lay (mC z i n ++ dC z (i + n)) 0 (mC s i n) := lay_skip (cP s i) (mC z i n ++ dC z (i + n)) (mC s i n) 0 (cP_len k i)
  rw [h1, lay_head _ _ _ (mC_len k j n i), cP_many s n i, List.append_assoc]
theorem mC_ring {s : Sta} (k : s.Ok) : rcs s.last s.counts = mC s 7 5 := by
  have hc := counts_eq k
  unfold rcs
  rw [hc]
  simp [mC, List.range', fC, isH, nF, u32s, num32]
theorem mC_now (s : Sta) : dcs s.now = mC s 12 5 := by simp [mC, List.range', fC, isH, nF, hF, dcs]
theorem mC_next (s : Sta) : dcs s.next = mC s 17 5 := by simp [mC, List.range', fC, isH, nF, hF, dcs]
def backR (s : RS) : Dat × RS :=
  let a := hashR s; let b := hashR a.2; let c := hashR b.2; let d := hashR c.2; let n := numR 4 d.2
  (⟨a.1, b.1, c.1, d.1, n.1⟩, n.2)
theorem backR_now (b : List Nat) : backR (qs b 12) = ((staR b).now, qs b 17) := rfl
theorem backR_next (b : List Nat) : backR (qs b 17) = ((staR b).next, qs b 22) := rfl
theorem left_ok {s : RS} (h : AllLt 256 s.1) : AllLt 256 (hashR s).2.1 := take_left 32 s h
section
attribute [local irreducible] hashR numR
theorem backR_ok {s : RS} (h : AllLt 256 s.1) : (backR s).1.Ok := by
  have h1 := left_ok h; have h2 := left_ok h1; have h3 := left_ok h2; have h4 := left_ok h3
  exact ⟨hashR_ok h, hashR_ok h1, hashR_ok h2, hashR_ok h3, numR_lt4 h4⟩
end
/-- What back leaves. -/
structure BkPost (w : World) (F D : Nat) (s : RS) (e : Ending) (w' : World) : Prop where
  ret : e = .returned (.agg (dcs (backR s).1).toArray)
  at_ : RfAt w' F D (backR s).2
  only : Only F w w'
theorem rf_lt {w : World} {F D : Nat} {s : RS} (h : RfAt w F D s) : AllLt 256 s.1 := h.lt
set_option maxHeartbeats 4000000 in
set_option maxRecDepth 100000 in
theorem fback_any (F D : Nat) (s : RS) (w : World) (h : RfAt w F D s) :
    Calls Try.prog 54 #[.pointer (some ⟨F, 0, none⟩)] w (BkPost w F D s) := by
  have hlt := rf_lt h
  have hFl := h.row_lt; have hDl := h.dle
  have h1 := left_ok hlt; have h2 := left_ok h1; have h3 := left_ok h2; have h4 := left_ok h3
  have K0 := Lib.hid (hashR_ok hlt); have K1 := Lib.hid (hashR_ok h1); have K2 := Lib.hid (hashR_ok h2); have K3 := Lib.hid (hashR_ok h3)
  have k4 := numR_lt4 h4
  have BK := Lib.hid (backR_ok hlt)
  have BE : Hid (backR s = (⟨(hashR s).1, (hashR (hashR s).2).1, (hashR (hashR (hashR s).2).2).1, (hashR (hashR (hashR (hashR s).2).2).2).1, (numR 4 (hashR (hashR (hashR (hashR s).2).2).2).2).1⟩, (numR 4 (hashR (hashR (hashR (hashR s).2).2).2).2).2)) := Lib.hid rfl
  have CC0 := Lib.hid (fun w0 => fHash_any F D s w0)
  obtain ⟨a0, ea0⟩ : ∃ a0, a0 = (hashR s).1 := ⟨_, rfl⟩
  obtain ⟨s1, es1⟩ : ∃ s1, s1 = (hashR s).2 := ⟨_, rfl⟩
  rw [← ea0, ← es1] at CC0
  rw [← ea0] at K0
  rw [← es1] at K1 K2 K3 k4
  rw [← ea0, ← es1] at BE
  have CC1 := Lib.hid (fun w0 => fHash_any F D s1 w0)
  obtain ⟨a1, ea1⟩ : ∃ a1, a1 = (hashR s1).1 := ⟨_, rfl⟩
  obtain ⟨s2, es2⟩ : ∃ s2, s2 = (hashR s1).2 := ⟨_, rfl⟩
  rw [← ea1, ← es2] at CC1 BE
  rw [← ea1] at K1
  rw [← es2] at K2 K3 k4
  have CC2 := Lib.hid (fun w0 => fHash_any F D s2 w0)
  obtain ⟨a2, ea2⟩ : ∃ a2, a2 = (hashR s2).1 := ⟨_, rfl⟩
  obtain ⟨s3, es3⟩ : ∃ s3, s3 = (hashR s2).2 := ⟨_, rfl⟩
  rw [← ea2, ← es3] at CC2 BE
  rw [← ea2] at K2
  rw [← es3] at K3 k4
  have CC3 := Lib.hid (fun w0 => fHash_any F D s3 w0)
  obtain ⟨a3, ea3⟩ : ∃ a3, a3 = (hashR s3).1 := ⟨_, rfl⟩
  obtain ⟨s4, es4⟩ : ∃ s4, s4 = (hashR s3).2 := ⟨_, rfl⟩
  rw [← ea3, ← es4] at CC3 BE
  rw [← ea3] at K3
  rw [← es4] at  k4
  have CC4 := Lib.hid (fun w0 h => fNumber_any 4 F D s4 w0 h (by omega))
  obtain ⟨n4, en4⟩ : ∃ n4, n4 = (numR 4 s4).1 := ⟨_, rfl⟩
  obtain ⟨s5, es5⟩ : ∃ s5, s5 = (numR 4 s4).2 := ⟨_, rfl⟩
  rw [← en4, ← es5] at CC4 BE
  rw [← en4] at k4
  have H := Lib.hid h
  clear h hlt h1 h2 h3 h4 ea0 es1 ea1 es2 ea2 es3 ea3 es4 en4 es5
  rw [BE.out] at BK
  go_enter Try.func54, Try.ntmps54
  go_wp2_with (first
    | ((with_reducible refine at_slot 2 ?_); (refine arm_alloc (o := ⟨some 2, _, _, _, _, _⟩) rfl _ rfl (dcs zd) z_rdat ?_); intro R w1 Re hw1 nw1)
    | ((with_reducible refine at_slot 4 ?_); (refine arm_build (o := ⟨some 4, _, _, _, _, _⟩) rfl _ _ rfl (dcs zd) (by kernel_rfl) ?_))
    | ((with_reducible refine at_slot 3 ?_); (refine arm_alloc (o := ⟨some 3, _, _, _, _, _⟩) rfl _ rfl (dcs zd) z_rdat ?_); intro T w2 Te hw2 nw2)
    | ((with_reducible refine arm_store (o := ⟨none, _, _, _, _, _⟩) rfl _ _ _ rfl T 0 rfl (dcs zd) rfl _ _ hw2 (by omega) (dcs_one _) (sz_rdat zd_ok) ?_); intro w3 hw3 ow3 sw3))
  have eR := Re.out; have eT := Te.out; have z1 := nw1.size; have z2 := nw2.size; have z3 := sw3.out
  have hA3 : RfAt w3 F D s := ((H.out.old nw1.below).old nw2.below).other ow3 (by omega) (by omega)
  have hT3 : Row w3 T 52 (dcs zd) := hw3.congr (lay_all _ _ rfl)
  have hR3 : Row w3 R 52 (dcs zd) := (hw1.old nw2.below).only ow3 (by omega)
  have ho3 : Only F w w3 := Only.of_below F (below_only (below_step nw1.below (by omega) nw2.below) ow3 (by omega) (by omega))
  have hRF : R ≠ F := by omega
  have hTF : T ≠ F := by omega
  have hTR : T ≠ R := by omega
  have hDT : D ≤ T := by omega
  have hwT : w.heap.size ≤ T := by omega
  have hwR : w.heap.size ≤ R := by omega
  clear hw1 nw1 hw2 nw2 hw3 ow3 sw3 eR eT z1 z2 z3 Re Te H
  refine (CC0.out w3 hA3).mono ?_
  rintro e x0 ⟨rfl, hAx0, hOx0⟩
  have hTx0 := hT3.only hOx0 hTF
  have hRx0 := hR3.only hOx0 hRF
  have hox0 := ho3.trans hOx0
  clear hA3 hT3 hR3 ho3 hOx0
  go_wp2_with (first
    | ((with_reducible refine arm_store (o := ⟨none, _, _, _, _, _⟩) rfl _ _ _ rfl T 0 rfl (u8s a0) rfl _ _ hTx0 (by rw [dcs_len (d := zd) zd_ok, h_len K0.out]; omega) (u8s_one _) (szH K0.out) ?_); intro y0 hy0 oy0 sy0))
  have hTy0 : Row y0 T 52 (dcs ⟨a0, zh, zh, zh, 0⟩) := hy0.congr (by have := Ep.lay_led (d := zd) zd_ok K0.out []; rw [List.append_nil, List.append_nil] at this; exact this)
  have hAy0 : RfAt y0 F D s1 := hAx0.other oy0 (Ne.symm hTF) hDT
  have hRy0 := hRx0.only oy0 (Ne.symm hTR)
  have hoy0 : Only F w y0 := ⟨oy0.os.trans hox0.os, oy0.tape.trans hox0.tape, oy0.output.trans hox0.output, Nat.le_trans hox0.size oy0.size, fun k hk hn => (oy0.block k (Nat.lt_of_lt_of_le hk hox0.size) (by omega)).trans (hox0.block k hk hn)⟩
  clear hy0 oy0 sy0 hAx0 hTx0 hRx0 hox0
  have hAq0 := hAy0; have hTq0 := hTy0; have hRq0 := hRy0; have hoq0 := hoy0
  clear hAy0 hTy0 hRy0 hoy0
  refine (CC1.out y0 hAq0).mono ?_
  rintro e x1 ⟨rfl, hAx1, hOx1⟩
  have hTx1 := hTq0.only hOx1 hTF
  have hRx1 := hRq0.only hOx1 hRF
  have hox1 := hoq0.trans hOx1
  clear hAq0 hTq0 hRq0 hoq0 hOx1
  go_wp2_with (first
    | ((with_reducible refine arm_store (o := ⟨none, _, _, _, _, _⟩) rfl _ _ _ rfl T 32 rfl (u8s a1) rfl _ _ hTx1 (by rw [dcs_len (d := ⟨a0, zh, zh, zh, 0⟩) ⟨K0.out, zh_ok, zh_ok, zh_ok, (by decide : 0 < 4294967296)⟩, h_len K1.out]; omega) (u8s_one _) (szH K1.out) ?_); intro y1 hy1 oy1 sy1))
  have hTy1 : Row y1 T 52 (dcs ⟨a0, a1, zh, zh, 0⟩) := hy1.congr (by have := Ep.lay_seed (d := ⟨a0, zh, zh, zh, 0⟩) ⟨K0.out, zh_ok, zh_ok, zh_ok, (by decide : 0 < 4294967296)⟩ K1.out []; rw [List.append_nil, List.append_nil] at this; exact this)
  have hAy1 : RfAt y1 F D s2 := hAx1.other oy1 (Ne.symm hTF) hDT
  have hRy1 := hRx1.only oy1 (Ne.symm hTR)
  have hoy1 : Only F w y1 := ⟨oy1.os.trans hox1.os, oy1.tape.trans hox1.tape, oy1.output.trans hox1.output, Nat.le_trans hox1.size oy1.size, fun k hk hn => (oy1.block k (Nat.lt_of_lt_of_le hk hox1.size) (by omega)).trans (hox1.block k hk hn)⟩
  clear hy1 oy1 sy1 hAx1 hTx1 hRx1 hox1
  have hAq1 := hAy1; have hTq1 := hTy1; have hRq1 := hRy1; have hoq1 := hoy1
  clear hAy1 hTy1 hRy1 hoy1
  refine (CC2.out y1 hAq1).mono ?_
  rintro e x2 ⟨rfl, hAx2, hOx2⟩
  have hTx2 := hTq1.only hOx2 hTF
  have hRx2 := hRq1.only hOx2 hRF
  have hox2 := hoq1.trans hOx2
  clear hAq1 hTq1 hRq1 hoq1 hOx2
  go_wp2_with (first
    | ((with_reducible refine arm_store (o := ⟨none, _, _, _, _, _⟩) rfl _ _ _ rfl T 64 rfl (u8s a2) rfl _ _ hTx2 (by rw [dcs_len (d := ⟨a0, a1, zh, zh, 0⟩) ⟨K0.out, K1.out, zh_ok, zh_ok, (by decide : 0 < 4294967296)⟩, h_len K2.out]; omega) (u8s_one _) (szH K2.out) ?_); intro y2 hy2 oy2 sy2))
  have hTy2 : Row y2 T 52 (dcs ⟨a0, a1, a2, zh, 0⟩) := hy2.congr (by have := Ep.lay_start (d := ⟨a0, a1, zh, zh, 0⟩) ⟨K0.out, K1.out, zh_ok, zh_ok, (by decide : 0 < 4294967296)⟩ K2.out []; rw [List.append_nil, List.append_nil] at this; exact this)
  have hAy2 : RfAt y2 F D s3 := hAx2.other oy2 (Ne.symm hTF) hDT
  have hRy2 := hRx2.only oy2 (Ne.symm hTR)
  have hoy2 : Only F w y2 := ⟨oy2.os.trans hox2.os, oy2.tape.trans hox2.tape, oy2.output.trans hox2.output, Nat.le_trans hox2.size oy2.size, fun k hk hn => (oy2.block k (Nat.lt_of_lt_of_le hk hox2.size) (by omega)).trans (hox2.block k hk hn)⟩
  clear hy2 oy2 sy2 hAx2 hTx2 hRx2 hox2
  have hAq2 := hAy2; have hTq2 := hTy2; have hRq2 := hRy2; have hoq2 := hoy2
  clear hAy2 hTy2 hRy2 hoy2
  refine (CC3.out y2 hAq2).mono ?_
  rintro e x3 ⟨rfl, hAx3, hOx3⟩
  have hTx3 := hTq2.only hOx3 hTF
  have hRx3 := hRq2.only hOx3 hRF
  have hox3 := hoq2.trans hOx3
  clear hAq2 hTq2 hRq2 hoq2 hOx3
  go_wp2_with (first
    | ((with_reducible refine arm_store (o := ⟨none, _, _, _, _, _⟩) rfl _ _ _ rfl T 96 rfl (u8s a3) rfl _ _ hTx3 (by rw [dcs_len (d := ⟨a0, a1, a2, zh, 0⟩) ⟨K0.out, K1.out, K2.out, zh_ok, (by decide : 0 < 4294967296)⟩, h_len K3.out]; omega) (u8s_one _) (szH K3.out) ?_); intro y3 hy3 oy3 sy3))
  have hTy3 : Row y3 T 52 (dcs ⟨a0, a1, a2, a3, 0⟩) := hy3.congr (by have := Ep.lay_lock (d := ⟨a0, a1, a2, zh, 0⟩) ⟨K0.out, K1.out, K2.out, zh_ok, (by decide : 0 < 4294967296)⟩ K3.out []; rw [List.append_nil, List.append_nil] at this; exact this)
  have hAy3 : RfAt y3 F D s4 := hAx3.other oy3 (Ne.symm hTF) hDT
  have hRy3 := hRx3.only oy3 (Ne.symm hTR)
  have hoy3 : Only F w y3 := ⟨oy3.os.trans hox3.os, oy3.tape.trans hox3.tape, oy3.output.trans hox3.output, Nat.le_trans hox3.size oy3.size, fun k hk hn => (oy3.block k (Nat.lt_of_lt_of_le hk hox3.size) (by omega)).trans (hox3.block k hk hn)⟩
  clear hy3 oy3 sy3 hAx3 hTx3 hRx3 hox3
  have hAq3 := hAy3; have hTq3 := hTy3; have hRq3 := hRy3; have hoq3 := hoy3
  clear hAy3 hTy3 hRy3 hoy3
  refine (CC4.out y3 hAq3).mono ?_
  rintro e x4 ⟨rfl, hAx4, hOx4⟩
  have hTx4 := hTq3.only hOx4 hTF
  have hRx4 := hRq3.only hOx4 hRF
  have hox4 := hoq3.trans hOx4
  clear hAq3 hTq3 hRq3 hoq3 hOx4
  go_wp2_with (first
    | ((with_reducible refine arm_storeV (o := ⟨none, _, _, _, _, _⟩) rfl _ _ _ rfl T 128 rfl (num32 n4) rfl rfl (by kernel_rfl) _ _ hTx4 (by rw [dcs_len (d := ⟨a0, a1, a2, a3, 0⟩) ⟨K0.out, K1.out, K2.out, K3.out, (by decide : 0 < 4294967296)⟩]; omega) ?_); intro y4 hy4 oy4 sy4; have hTy4 : Row y4 T 52 (dcs ⟨a0, a1, a2, a3, n4⟩) := hy4.congr (by have := Ep.set_len (d := ⟨a0, a1, a2, a3, 0⟩) ⟨K0.out, K1.out, K2.out, K3.out, (by decide : 0 < 4294967296)⟩ n4 []; rw [List.append_nil, List.append_nil] at this; exact this); have hRy4 := hRx4.only oy4 (Ne.symm hTR))
    | ((with_reducible refine at_slot 21 ?_); (refine arm_load (o := ⟨some 21, _, _, _, _, _⟩) rfl _ _ rfl T 0 rfl (dcs ⟨a0, a1, a2, a3, n4⟩) ((Has.refl _).range hTy4) (sz_rdat BK.out) ?_))
    | ((with_reducible refine arm_store (o := ⟨none, _, _, _, _, _⟩) rfl _ _ _ rfl R 0 rfl (dcs ⟨a0, a1, a2, a3, n4⟩) rfl _ _ hRy4 (by rw [dcs_len BK.out, dcs_len zd_ok]; omega) (dcs_one _) (sz_rdat BK.out) ?_); intro z4 hz4 oz4 sz4))
  have hAz4 : RfAt z4 F D s5 := (hAx4.other oy4 (Ne.symm hTF) hDT).other oz4 (Ne.symm hRF) (by omega)
  have hoz4 : Only F w z4 := ⟨(oz4.os.trans oy4.os).trans hox4.os, (oz4.tape.trans oy4.tape).trans hox4.tape, (oz4.output.trans oy4.output).trans hox4.output, Nat.le_trans hox4.size (Nat.le_trans oy4.size oz4.size), fun k hk hn => ((oz4.block k (Nat.lt_of_lt_of_le hk (Nat.le_trans hox4.size oy4.size)) (by omega)).trans (oy4.block k (Nat.lt_of_lt_of_le hk hox4.size) (by omega))).trans (hox4.block k hk hn)⟩
  refine bodyPost_ret (v := .agg (dcs ⟨a0, a1, a2, a3, n4⟩).toArray) (result_row (p := 2) (ty := 52) (u := 52) (by kernel_rfl) _ _ R (dcs ⟨a0, a1, a2, a3, n4⟩) rfl (hz4.congr (lay_all _ _ (by rw [dcs_len BK.out, dcs_len zd_ok]))) (sz_rdat BK.out)) rfl ⟨?_, ?_, hoz4⟩
  · rw [BE.out]
  · rw [BE.out]; exact hAz4
theorem nv_def (b : List Nat) (i : Nat) : nv b i = (numR 4 (qs b i)).1 := rfl
theorem hv_def (b : List Nat) (i : Nat) : hv b i = (hashR (qs b i)).1 := rfl
theorem abs_zero (b : List Nat) : absR b 0 0 = qs b 0 := by rw [absR_ok, List.drop_zero]; rfl
theorem fCR_h {b : List Nat} {i : Nat} (hi : i < 22) (h : isH i = true) : fC (staR b) i = u8s (hv b i) := by rw [fC_h h, hF_R hi h]
theorem fCR_n {b : List Nat} {i : Nat} (hi : i < 22) (h : isH i = false) : fC (staR b) i = [num32 (nv b i)] := by rw [fC_n h, nF_R hi h]
theorem four_int : (.int .i64 4 : Value) = .int .i64 ((4 : Nat) : Int) := rfl
/-- What holds while it is read, field by field. -/
structure RqRel (w : World) (R F S : Nat) (b : List Nat) (i : Nat) (wr : World) : Prop where
  sta : Row wr S 56 (mixC (staR b) zs i)
  rd : RfAt wr F w.heap.size (qs b i)
  res : Row wr R 56 (scs zs)
  bel : Below w.heap.size w wr
/-- Where it lies. -/
structure Lq (w : World) (R F S : Nat) : Prop where
  r : w.heap.size ≤ R
  f : w.heap.size ≤ F
  s : w.heap.size ≤ S
  rf : R ≠ F
  rs : R ≠ S
  sf : S ≠ F
/-- The reader has gone on. -/
structure RvRel (w : World) (R F S : Nat) (b : List Nat) (i n : Nat) (wr : World) : Prop where
  sta : Row wr S 56 (mixC (staR b) zs i)
  rd : RfAt wr F w.heap.size (qs b (i + n))
  res : Row wr R 56 (scs zs)
  bel : Below w.heap.size w wr
section
variable {w wr wa wb : World} {R F S : Nat} {b : List Nat} {i n : Nat}
theorem RqRel.read (h : RqRel w R F S b i wr) (hl : Lq w R F S) (ha : RfAt wa F w.heap.size (qs b (i + n))) (ho : Only F wr wa) : RvRel w R F S b i n wa :=
  ⟨h.sta.only ho hl.sf, ha, h.res.only ho hl.rf, below_only h.bel ho hl.f h.bel.size⟩
theorem RvRel.store (h : RvRel w R F S b i n wa) (hl : Lq w R F S) (hb : Row wb S 56 (mixC (staR b) zs (i + n))) (ho : Only S wa wb) : RqRel w R F S b (i + n) wb :=
  ⟨hb, h.rd.other ho (Ne.symm hl.sf) hl.s, h.res.only ho hl.rs, below_only h.bel ho hl.s h.bel.size⟩
end
/-- The counts while they are read. -/
def cntQ (b : List Nat) (j : Nat) : List Nat := [if 0 < j then nv b 8 else 0, if 1 < j then nv b 9 else 0, if 2 < j then nv b 10 else 0, if 3 < j then nv b 11 else 0]
theorem four_of {j : Nat} (h : j < 4) : j = 0 ∨ j = 1 ∨ j = 2 ∨ j = 3 := by omega
theorem cnt_at (b : List Nat) (j : Nat) : nv b (7 + (1 + j)) = nv b (8 + j) := by rw [show 7 + (1 + j) = 8 + j by omega]
theorem cnt_not {j : Nat} (h : j < 4) : isH (7 + (1 + j)) = false := by rcases four_of h with rfl | rfl | rfl | rfl <;> rfl
section
attribute [local irreducible] qs hv nv hashR numR
theorem staR_counts (b : List Nat) : cntQ b 4 = (staR b).counts := by
  unfold cntQ
  rw [if_pos (by decide), if_pos (by decide), if_pos (by decide), if_pos (by decide)]
  rfl
theorem staR_last (b : List Nat) : (staR b).last = nv b 7 := rfl
end
structure LqRel (w : World) (R F S C a7 : Nat) (b : List Nat) (i : Value) (wr : World) : Prop where
  ex : ∃ j : Nat, j ≤ 4 ∧ i = .int .i64 j ∧ Row wr C 49 (rcs a7 (cntQ b j)) ∧ RvRel w R F S b 7 (1 + j) wr
section
attribute [local irreducible] qs hv nv hashR numR staR endR
theorem cnt_set (b : List Nat) {j : Nat} (h : j < 4) : (cntQ b j).set j (nv b (7 + (1 + j))) = cntQ b (j + 1) := by rcases four_of h with rfl | rfl | rfl | rfl <;> rfl
set_option maxHeartbeats 1000000 in
set_option maxRecDepth 100000 in
theorem rread_bad (b : List Nat) (p : Option Addr) (cap : Nat) (w : World) (hp : Rd w p b) (hcp : b.length ≤ cap) (hn : p = none → cap = 0) (hlow : b ≠ [] → ∀ k, blk p = some k → k < w.heap.size) (hl : b.length ≤ 1000) (hlt : AllLt 256 b) (he : endR (qs b 22) ≠ 0) :
    Calls Try.prog 31 #[.slice p b.length cap] w (ReadPost w b) := by
  have RK := Lib.hid (staR_ok hlt)
  have HRF : Hid (∀ w' F, Below w.heap.size w w' → Row w' F 91 (fcells p b.length cap 0 0) → RfAt w' F w.heap.size (qs b 0)) := Lib.hid (fun w' F hb hr => ⟨p, cap, b, 0, 0, ⟨hr, hp.below hb, hcp, hn, hlt, Nat.zero_le _, hlow, hb.size⟩, abs_zero b, by omega⟩)
  have CH := Lib.hid (fun F i (hi : isH i = true) (w0 : World) (h : RfAt w0 F w.heap.size (qs b i)) => (show Calls Try.prog 53 #[.pointer (some ⟨F, 0, none⟩)] w0 (RfPost w0 F w.heap.size (.agg (u8s (hv b i)).toArray) (qs b (i + 1))) from by rw [qs_h hi, hv_def]; exact fHash_any F w.heap.size (qs b i) w0 h))
  have CN := Lib.hid (fun F i (hi : isH i = false) (w0 : World) (h : RfAt w0 F w.heap.size (qs b i)) => (show Calls Try.prog 29 #[.pointer (some ⟨F, 0, none⟩), .int .i64 4] w0 (RfPost w0 F w.heap.size (.int .u64 (nv b i : Int)) (qs b (i + 1))) from by rw [qs_n hi, nv_def, four_int]; exact fNumber_any 4 F w.heap.size (qs b i) w0 h (by omega)))
  have CB1 := Lib.hid (fun F (w0 : World) (h : RfAt w0 F w.heap.size (qs b 12)) => (fback_any F w.heap.size (qs b 12) w0 h).mono (fun e w' k => (⟨by rw [k.ret, backR_now], by have := k.at_; rw [backR_now] at this; exact this, k.only⟩ : RfPost w0 F w.heap.size (.agg (dcs (staR b).now).toArray) (qs b 17) e w')))
  have CB2 := Lib.hid (fun F (w0 : World) (h : RfAt w0 F w.heap.size (qs b 17)) => (fback_any F w.heap.size (qs b 17) w0 h).mono (fun e w' k => (⟨by rw [k.ret, backR_next], by have := k.at_; rw [backR_next] at this; exact this, k.only⟩ : RfPost w0 F w.heap.size (.agg (dcs (staR b).next).toArray) (qs b 22) e w')))
  have CE := Lib.hid (fun F (w0 : World) (h : RfAt w0 F w.heap.size (qs b 22)) => fEnd_any F w.heap.size (qs b 22) w0 h)
  have HV := Lib.hid (fun i => hv_ok hlt i); have NV := Lib.hid (fun i => nv_lt hlt i)
  have MX := Lib.hid (fun i (hi : i < 22) => mix_step (staR_ok hlt) zs_ok hi)
  have ML := Lib.hid (fun i (hi : i ≤ 22) => mix_len (staR_ok hlt) zs_ok hi)
  have hz1 : (((endR (qs b 22) : Nat) : Int) != 0) = true := by simp only [bne_iff_ne, ne_eq]; omega
  have HE := Lib.hid he
  obtain ⟨z, hz⟩ : ∃ z : Int, z = ((endR (qs b 22) : Nat) : Int) := ⟨_, rfl⟩
  rw [← hz] at hz1 CE
  have HZ := Lib.hid hz
  clear hp hcp hn hlow hl hlt he hz
  go_enter Try.func31, Try.ntmps31
  go_wp2_with (first
    | ((with_reducible refine at_slot 2 ?_); (refine arm_alloc (o := ⟨some 2, _, _, _, _, _⟩) rfl _ rfl (scs zs) z_rsta ?_); intro R w1 Re hw1 nw1)
    | ((with_reducible refine at_slot 9 ?_); (refine arm_build (o := ⟨some 9, _, _, _, _, _⟩) rfl _ _ rfl (fcells p b.length cap 0 0) (by kernel_rfl) ?_))
    | ((with_reducible refine at_slot 10 ?_); (refine arm_box (o := ⟨some 10, _, _, _, _, _⟩) rfl _ _ rfl (fcells p b.length cap 0 0) rfl ?_); intro F w2 Fe hw2 nw2)
    | ((with_reducible refine at_slot 11 ?_); (refine arm_build (o := ⟨some 11, _, _, _, _, _⟩) rfl _ _ rfl (scs zs) (by simp only [List.map_toArray, List.map_nil]; exact built_rsta0) ?_))
    | ((with_reducible refine at_slot 5 ?_); (refine arm_alloc (o := ⟨some 5, _, _, _, _, _⟩) rfl _ rfl (scs zs) z_rsta ?_); intro S w3 Se hw3 nw3)
    | ((with_reducible refine arm_store (o := ⟨none, _, _, _, _, _⟩) rfl _ _ _ rfl S 0 rfl (scs zs) rfl _ _ hw3 (fitS zs_ok) (scs_one _) (sz_rsta zs_ok) ?_); intro y hy oy sy))
  have e1 := Re.out; have e2 := Fe.out; have e3 := Se.out; have z1 := nw1.size; have z2 := nw2.size; have z3 := nw3.size
  have HL : Hid (Lq w R F S) := Lib.hid ⟨by omega, by omega, by omega, by omega, by omega, by omega⟩
  have bel3 : Below w.heap.size w w3 := (nw1.below.trans (nw2.below.mono (by omega))).trans (nw3.below.mono (by omega))
  have bely : Below w.heap.size w y := below_only bel3 oy (by omega) (by omega)
  have h0 : RqRel w R F S b 0 y := ⟨hy.congr (by rw [allS zs_ok, mix_zero zs_ok]), (HRF.out w3 F bel3 (hw2.old nw3.below)).other oy (by omega) (by omega), ((hw1.old nw2.below).old nw3.below).only oy (by omega), bely⟩
  clear hw1 nw1 hw2 nw2 hw3 nw3 hy oy sy bel3 bely e1 e2 e3 z1 z2 z3 Re Fe Se HRF
  refine (CH.out F 0 rfl y h0.rd).mono ?_
  rintro e x0 ⟨rfl, hA0, hO0⟩
  have v0 := h0.read (n := 1) HL.out hA0 hO0
  have k0 := Lib.hid (HV.out 0)
  have m0 := Lib.hid (MX.out 0 (by omega))
  have l0 := Lib.hid (ML.out 0 (by omega))
  have r0 := v0.sta
  have c0 : fC (staR b) 0 = u8s (hv b 0) := fCR_h (by omega) rfl
  rw [c0] at m0
  obtain ⟨cs0, hcs0⟩ : ∃ cs0, cs0 = mixC (staR b) zs 0 := ⟨_, rfl⟩
  rw [← hcs0] at m0 l0 r0
  obtain ⟨a0, ha0⟩ : ∃ a0, a0 = hv b 0 := ⟨_, rfl⟩
  rw [← ha0] at m0 k0
  rw [← ha0]
  clear h0 hA0 hO0 c0 hcs0 ha0
  go_wp2_with (first
    | ((with_reducible refine arm_store (o := ⟨none, _, _, _, _, _⟩) rfl _ _ _ rfl S 0 rfl (u8s a0) rfl _ _ r0 (by rw [l0.out, h_len k0.out]; omega) (u8s_one _) (szH k0.out) ?_); intro y1 hy1 oy1 sy1))
  have h1 := v0.store HL.out (hy1.congr m0.out) oy1
  clear hy1 oy1 sy1 v0 r0 m0 k0 l0
  refine (CH.out F 1 rfl y1 h1.rd).mono ?_
  rintro e x1 ⟨rfl, hA1, hO1⟩
  have v1 := h1.read (n := 1) HL.out hA1 hO1
  have k1 := Lib.hid (HV.out 1)
  have m1 := Lib.hid (MX.out 1 (by omega))
  have l1 := Lib.hid (ML.out 1 (by omega))
  have r1 := v1.sta
  have c1 : fC (staR b) 1 = u8s (hv b 1) := fCR_h (by omega) rfl
  rw [c1] at m1
  obtain ⟨cs1, hcs1⟩ : ∃ cs1, cs1 = mixC (staR b) zs 1 := ⟨_, rfl⟩
  rw [← hcs1] at m1 l1 r1
  obtain ⟨a1, ha1⟩ : ∃ a1, a1 = hv b 1 := ⟨_, rfl⟩
  rw [← ha1] at m1 k1
  rw [← ha1]
  clear h1 hA1 hO1 c1 hcs1 ha1
  go_wp2_with (first
    | ((with_reducible refine arm_store (o := ⟨none, _, _, _, _, _⟩) rfl _ _ _ rfl S 32 rfl (u8s a1) rfl _ _ r1 (by rw [l1.out, h_len k1.out]; omega) (u8s_one _) (szH k1.out) ?_); intro y2 hy2 oy2 sy2))
  have h2 := v1.store HL.out (hy2.congr m1.out) oy2
  clear hy2 oy2 sy2 v1 r1 m1 k1 l1
  refine (CH.out F 2 rfl y2 h2.rd).mono ?_
  rintro e x2 ⟨rfl, hA2, hO2⟩
  have v2 := h2.read (n := 1) HL.out hA2 hO2
  have k2 := Lib.hid (HV.out 2)
  have m2 := Lib.hid (MX.out 2 (by omega))
  have l2 := Lib.hid (ML.out 2 (by omega))
  have r2 := v2.sta
  have c2 : fC (staR b) 2 = u8s (hv b 2) := fCR_h (by omega) rfl
  rw [c2] at m2
  obtain ⟨cs2, hcs2⟩ : ∃ cs2, cs2 = mixC (staR b) zs 2 := ⟨_, rfl⟩
  rw [← hcs2] at m2 l2 r2
  obtain ⟨a2, ha2⟩ : ∃ a2, a2 = hv b 2 := ⟨_, rfl⟩
  rw [← ha2] at m2 k2
  rw [← ha2]
  clear h2 hA2 hO2 c2 hcs2 ha2
  go_wp2_with (first
    | ((with_reducible refine arm_store (o := ⟨none, _, _, _, _, _⟩) rfl _ _ _ rfl S 64 rfl (u8s a2) rfl _ _ r2 (by rw [l2.out, h_len k2.out]; omega) (u8s_one _) (szH k2.out) ?_); intro y3 hy3 oy3 sy3))
  have h3 := v2.store HL.out (hy3.congr m2.out) oy3
  clear hy3 oy3 sy3 v2 r2 m2 k2 l2
  refine (CN.out F 3 rfl y3 h3.rd).mono ?_
  rintro e x3 ⟨rfl, hA3, hO3⟩
  have v3 := h3.read (n := 1) HL.out hA3 hO3
  have k3 := NV.out 3
  have m3 := Lib.hid (MX.out 3 (by omega))
  have l3 := Lib.hid (ML.out 3 (by omega))
  have r3 := v3.sta
  have c3 : fC (staR b) 3 = [num32 (nv b 3)] := fCR_n (by omega) rfl
  rw [c3] at m3
  obtain ⟨cs3, hcs3⟩ : ∃ cs3, cs3 = mixC (staR b) zs 3 := ⟨_, rfl⟩
  rw [← hcs3] at m3 l3 r3
  obtain ⟨a3, ha3⟩ : ∃ a3, a3 = nv b 3 := ⟨_, rfl⟩
  rw [← ha3] at m3 k3
  rw [← ha3]
  have s3 : Hid (cs3.set 96 (num32 a3) = mixC (staR b) zs (3 + 1)) := Lib.hid (by rw [set_lay (by rw [l3.out]; omega)]; exact m3.out)
  clear h3 hA3 hO3 c3 hcs3 ha3
  go_wp2_with (first
    | ((with_reducible refine arm_storeV (o := ⟨none, _, _, _, _, _⟩) rfl _ _ _ rfl S 96 rfl (num32 a3) rfl rfl (by kernel_rfl) _ _ r3 (by rw [l3.out]; omega) ?_); intro y4 hy4 oy4 sy4))
  have h4 := v3.store HL.out (hy4.congr s3.out) oy4
  clear hy4 oy4 sy4 v3 r3 m3 k3 l3 s3
  refine (CN.out F 4 rfl y4 h4.rd).mono ?_
  rintro e x4 ⟨rfl, hA4, hO4⟩
  have v4 := h4.read (n := 1) HL.out hA4 hO4
  have k4 := NV.out 4
  have m4 := Lib.hid (MX.out 4 (by omega))
  have l4 := Lib.hid (ML.out 4 (by omega))
  have r4 := v4.sta
  have c4 : fC (staR b) 4 = [num32 (nv b 4)] := fCR_n (by omega) rfl
  rw [c4] at m4
  obtain ⟨cs4, hcs4⟩ : ∃ cs4, cs4 = mixC (staR b) zs 4 := ⟨_, rfl⟩
  rw [← hcs4] at m4 l4 r4
  obtain ⟨a4, ha4⟩ : ∃ a4, a4 = nv b 4 := ⟨_, rfl⟩
  rw [← ha4] at m4 k4
  rw [← ha4]
  have s4 : Hid (cs4.set 97 (num32 a4) = mixC (staR b) zs (4 + 1)) := Lib.hid (by rw [set_lay (by rw [l4.out]; omega)]; exact m4.out)
  clear h4 hA4 hO4 c4 hcs4 ha4
  go_wp2_with (first
    | ((with_reducible refine arm_storeV (o := ⟨none, _, _, _, _, _⟩) rfl _ _ _ rfl S 97 rfl (num32 a4) rfl rfl (by kernel_rfl) _ _ r4 (by rw [l4.out]; omega) ?_); intro y5 hy5 oy5 sy5))
  have h5 := v4.store HL.out (hy5.congr s4.out) oy5
  clear hy5 oy5 sy5 v4 r4 m4 k4 l4 s4
  refine (CN.out F 5 rfl y5 h5.rd).mono ?_
  rintro e x5 ⟨rfl, hA5, hO5⟩
  have v5 := h5.read (n := 1) HL.out hA5 hO5
  have k5 := NV.out 5
  have m5 := Lib.hid (MX.out 5 (by omega))
  have l5 := Lib.hid (ML.out 5 (by omega))
  have r5 := v5.sta
  have c5 : fC (staR b) 5 = [num32 (nv b 5)] := fCR_n (by omega) rfl
  rw [c5] at m5
  obtain ⟨cs5, hcs5⟩ : ∃ cs5, cs5 = mixC (staR b) zs 5 := ⟨_, rfl⟩
  rw [← hcs5] at m5 l5 r5
  obtain ⟨a5, ha5⟩ : ∃ a5, a5 = nv b 5 := ⟨_, rfl⟩
  rw [← ha5] at m5 k5
  rw [← ha5]
  have s5 : Hid (cs5.set 98 (num32 a5) = mixC (staR b) zs (5 + 1)) := Lib.hid (by rw [set_lay (by rw [l5.out]; omega)]; exact m5.out)
  clear h5 hA5 hO5 c5 hcs5 ha5
  go_wp2_with (first
    | ((with_reducible refine arm_storeV (o := ⟨none, _, _, _, _, _⟩) rfl _ _ _ rfl S 98 rfl (num32 a5) rfl rfl (by kernel_rfl) _ _ r5 (by rw [l5.out]; omega) ?_); intro y6 hy6 oy6 sy6))
  have h6 := v5.store HL.out (hy6.congr s5.out) oy6
  clear hy6 oy6 sy6 v5 r5 m5 k5 l5 s5
  refine (CN.out F 6 rfl y6 h6.rd).mono ?_
  rintro e x6 ⟨rfl, hA6, hO6⟩
  have v6 := h6.read (n := 1) HL.out hA6 hO6
  have k6 := NV.out 6
  have m6 := Lib.hid (MX.out 6 (by omega))
  have l6 := Lib.hid (ML.out 6 (by omega))
  have r6 := v6.sta
  have c6 : fC (staR b) 6 = [num32 (nv b 6)] := fCR_n (by omega) rfl
  rw [c6] at m6
  obtain ⟨cs6, hcs6⟩ : ∃ cs6, cs6 = mixC (staR b) zs 6 := ⟨_, rfl⟩
  rw [← hcs6] at m6 l6 r6
  obtain ⟨a6, ha6⟩ : ∃ a6, a6 = nv b 6 := ⟨_, rfl⟩
  rw [← ha6] at m6 k6
  rw [← ha6]
  have s6 : Hid (cs6.set 99 (num32 a6) = mixC (staR b) zs (6 + 1)) := Lib.hid (by rw [set_lay (by rw [l6.out]; omega)]; exact m6.out)
  clear h6 hA6 hO6 c6 hcs6 ha6
  go_wp2_with (first
    | ((with_reducible refine arm_storeV (o := ⟨none, _, _, _, _, _⟩) rfl _ _ _ rfl S 99 rfl (num32 a6) rfl rfl (by kernel_rfl) _ _ r6 (by rw [l6.out]; omega) ?_); intro y7 hy7 oy7 sy7))
  have h7 := v6.store HL.out (hy7.congr s6.out) oy7
  clear hy7 oy7 sy7 v6 r6 m6 k6 l6 s6
  refine (CN.out F 7 rfl y7 h7.rd).mono ?_
  rintro e x7 ⟨rfl, hA7, hO7⟩
  have v7 := h7.read (n := 1) HL.out hA7 hO7
  have k7 := NV.out 7
  obtain ⟨a7, ha7⟩ : ∃ a7, a7 = nv b 7 := ⟨_, rfl⟩
  rw [← ha7] at k7
  rw [← ha7]
  have HA7 := Lib.hid ha7
  clear h7 hA7 hO7 ha7
  go_wp2_with (first
    | ((with_reducible refine at_slot 41 ?_); (refine arm_build (o := ⟨some 41, _, _, _, _, _⟩) rfl _ _ rfl (rcs a7 [0, 0, 0, 0]) (by kernel_rfl) ?_))
    | ((with_reducible refine at_slot 6 ?_); (refine arm_alloc (o := ⟨some 6, _, _, _, _, _⟩) rfl _ rfl (rcs 0 [0, 0, 0, 0]) z_rref ?_); intro C u7 Ce hu7 nu7)
    | ((with_reducible refine arm_store (o := ⟨none, _, _, _, _, _⟩) rfl _ _ _ rfl C 0 rfl (rcs a7 [0, 0, 0, 0]) rfl _ _ hu7 (by rw [rcs_len rfl, rcs_len rfl]; omega) (rcs_one _ _) (sz_rref' rfl) ?_); intro t7 ht7 ot7 st7))
  have eC := Ce.out; have zu := nu7.size; have bx := v7.bel.size
  have lS := v7.sta.lt; have lR := v7.res.lt; have lF := v7.rd.row_lt
  have HCC : Hid (C ≠ S ∧ C ≠ R ∧ C ≠ F ∧ w.heap.size ≤ C) := Lib.hid ⟨by omega, by omega, by omega, by omega⟩
  have q7 : RvRel w R F S b 7 1 t7 := ⟨(v7.sta.old nu7.below).only ot7 (Ne.symm HCC.out.1), (v7.rd.old nu7.below).other ot7 (Ne.symm HCC.out.2.2.1) HCC.out.2.2.2, (v7.res.old nu7.below).only ot7 (Ne.symm HCC.out.2.1), below_only (below_step v7.bel bx nu7.below) ot7 HCC.out.2.2.2 (by omega)⟩
  have hC7 : Row t7 C 49 (rcs a7 (cntQ b 0)) := ht7.congr (lay_all _ _ rfl)
  have l0 : LqRel w R F S C a7 b (.int .i64 0) t7 := ⟨⟨0, by omega, rfl, hC7, q7⟩⟩
  clear v7 hu7 nu7 ht7 ot7 st7 eC zu bx lS lR lF hC7 q7 Ce
  go_loopw [7] (fun i wr => LqRel w R F S C a7 b i wr) (fun i _ => 4 - (intOf i).toNat)
  case atStart => exact l0
  case round =>
    clear l0
    obtain ⟨j, hj, rfl, hCr, hq⟩ := hrel.ex
    by_cases hlt : j < 4
    · have ik : (j : Int) < 4 := by omega
      have HQ := Lib.hid hq; have HCR := Lib.hid hCr
      have hi : isH (7 + (1 + j)) = false := cnt_not hlt
      have CNJ := Lib.hid (CN.out F (7 + (1 + j)) hi wr hq.rd)
      have hv := NV.out (7 + (1 + j))
      have HST := Lib.hid (cnt_set b hlt)
      rw [cnt_at] at HST CNJ hv
      have hidx : qs b (7 + (1 + j) + 1) = qs b (7 + (1 + (j + 1))) := by rw [show 7 + (1 + j) + 1 = 7 + (1 + (j + 1)) by omega]
      have HIX := Lib.hid hidx
      clear hq hCr hi hidx
      generalize nv b (8 + j) = v at HST CNJ hv
      obtain ⟨cs, hcs⟩ : ∃ cs, cs = cntQ b j := ⟨_, rfl⟩
      rw [← hcs] at HCR HST
      have hcl : cs.length = 4 := by rw [hcs]; rfl
      clear hcs
      go_wp2_with fail
      refine CNJ.out.mono ?_
      rintro e wa ⟨rfl, hAa, hOa⟩
      rw [HIX.out] at hAa
      have va : RvRel w R F S b 7 (1 + (j + 1)) wa := ⟨HQ.out.sta.only hOa HL.out.sf, hAa, HQ.out.res.only hOa HL.out.rf, below_only HQ.out.bel hOa HL.out.f HQ.out.bel.size⟩
      have hCa := HCR.out.only hOa HCC.out.2.2.1
      clear hAa hOa
      go_wp2_with (first
        | ((with_reducible refine arm_storeV (o := ⟨none, _, _, _, _, _⟩) rfl _ _ _ rfl C (1 + j) rfl (num32 v) rfl rfl (by kernel_rfl) _ _ hCa (by rw [rcs_len hcl]; omega) ?_); intro wb hCb hOb hZb))
      go_roundw
      case rel => exact ⟨j + 1, by omega, by go_num, hCb.congr (by rw [show num32 v = .int .u32 (v : Int) from rfl, rcs_set, HST.out]), ⟨va.sta.only hOb (Ne.symm HCC.out.1), va.rd.other hOb (Ne.symm HCC.out.2.2.1) HCC.out.2.2.2, va.res.only hOb (Ne.symm HCC.out.2.1), below_only va.bel hOb HCC.out.2.2.2 va.bel.size⟩⟩
      case measure => simp [intOf]; omega
    · obtain rfl : j = 4 := by omega
      have hCf : Row wr C 49 (rcs (staR b).last (staR b).counts) := hCr.congr (by rw [HA7.out, ← staR_last, staR_counts])
      have hkc := RK.out.counts
      have MR := Lib.hid (mix_many RK.out zs_ok 7 5 (by omega) _ (mC_ring RK.out) 100 rfl)
      have l7 := Lib.hid (ML.out 7 (by omega))
      have HQ := Lib.hid hq
      have r7 := hq.sta
      obtain ⟨cs7, hcs7⟩ : ∃ cs7, cs7 = mixC (staR b) zs 7 := ⟨_, rfl⟩
      rw [← hcs7] at MR l7 r7
      obtain ⟨rg, hrg⟩ : ∃ rg, rg = rcs (staR b).last (staR b).counts := ⟨_, rfl⟩
      have hrl : rg.length = 5 := by rw [hrg]; exact rcs_len hkc
      have hro : OneCells rg := by rw [hrg]; exact rcs_one _ _
      rw [← hrg] at MR hCf
      have HRL := Lib.hid hrl
      clear hCr hq hcs7 hrg hkc hlt hj hrl
      go_wp2_with (first
        | ((with_reducible refine at_slot 52 ?_); (refine arm_load (o := ⟨some 52, _, _, _, _, _⟩) rfl _ _ rfl C 0 rfl rg ((Has.refl _).range hCf) (by rw [HRL.out]; exact sz_rref) ?_))
        | ((with_reducible refine arm_store (o := ⟨none, _, _, _, _, _⟩) rfl _ _ _ rfl S 100 rfl rg rfl _ _ r7 (by rw [l7.out, HRL.out]; omega) hro (by rw [HRL.out]; exact sz_rref) ?_); intro y12 hy12 oy12 sy12))
      have h12 : RqRel w R F S b 12 y12 := ⟨hy12.congr MR.out, HQ.out.rd.other oy12 (Ne.symm HL.out.sf) HL.out.s, HQ.out.res.only oy12 HL.out.rs, below_only HQ.out.bel oy12 HL.out.s HQ.out.bel.size⟩
      clear hy12 oy12 sy12 r7 MR l7 HQ hCf hro HRL
      refine (CB1.out F y12 h12.rd).mono ?_
      rintro e x12 ⟨rfl, hA12, hO12⟩
      have v12 := h12.read (n := 5) HL.out hA12 hO12
      have m12 := Lib.hid (mix_many RK.out zs_ok 12 5 (by omega) _ (mC_now (staR b)) 105 rfl)
      have l12 := Lib.hid (ML.out 12 (by omega))
      have kd12 := Lib.hid RK.out.now
      have r12 := v12.sta
      obtain ⟨cs12, hcs12⟩ : ∃ cs12, cs12 = mixC (staR b) zs 12 := ⟨_, rfl⟩
      rw [← hcs12] at m12 l12 r12
      obtain ⟨d12, hd12⟩ : ∃ d12, d12 = (staR b).now := ⟨_, rfl⟩
      rw [← hd12] at m12 kd12
      rw [← hd12]
      clear h12 hA12 hO12 hcs12 hd12
      go_wp2_with (first
        | ((with_reducible refine arm_store (o := ⟨none, _, _, _, _, _⟩) rfl _ _ _ rfl S 105 rfl (dcs d12) rfl _ _ r12 (by rw [l12.out, dcs_len kd12.out]; omega) (dcs_one _) (sz_rdat kd12.out) ?_); intro y17 hy17 oy17 sy17))
      have h17 := v12.store HL.out (hy17.congr m12.out) oy17
      clear hy17 oy17 sy17 v12 r12 m12 kd12 l12
      refine (CB2.out F y17 h17.rd).mono ?_
      rintro e x17 ⟨rfl, hA17, hO17⟩
      have v17 := h17.read (n := 5) HL.out hA17 hO17
      have m17 := Lib.hid (mix_many RK.out zs_ok 17 5 (by omega) _ (mC_next (staR b)) 234 rfl)
      have l17 := Lib.hid (ML.out 17 (by omega))
      have kd17 := Lib.hid RK.out.next
      have r17 := v17.sta
      obtain ⟨cs17, hcs17⟩ : ∃ cs17, cs17 = mixC (staR b) zs 17 := ⟨_, rfl⟩
      rw [← hcs17] at m17 l17 r17
      obtain ⟨d17, hd17⟩ : ∃ d17, d17 = (staR b).next := ⟨_, rfl⟩
      rw [← hd17] at m17 kd17
      rw [← hd17]
      clear h17 hA17 hO17 hcs17 hd17
      go_wp2_with (first
        | ((with_reducible refine arm_store (o := ⟨none, _, _, _, _, _⟩) rfl _ _ _ rfl S 234 rfl (dcs d17) rfl _ _ r17 (by rw [l17.out, dcs_len kd17.out]; omega) (dcs_one _) (sz_rdat kd17.out) ?_); intro y22 hy22 oy22 sy22))
      have h22 := v17.store HL.out (hy22.congr m17.out) oy22
      clear hy22 oy22 sy22 v17 r17 m17 kd17 l17
      refine (CE.out F y22 h22.rd).mono ?_
      rintro e y ⟨rfl, hBy⟩
      have hsy : Row y S 56 (scs (staR b)) := (h22.sta.congr (mix_all RK.out)).old hBy
      have hry := h22.res.old hBy
      have hfy := h22.rd.old hBy
      have hby : Below w.heap.size w y := below_step h22.bel h22.bel.size hBy
      obtain ⟨r, hr⟩ : ∃ r, r = staR b := ⟨_, rfl⟩
      have HR := Lib.hid hr
      rw [← hr] at hsy RK
      clear h22 hBy
      clear hr
      go_wp2_with (first
        | ((with_reducible refine at_slot 66 ?_); (refine arm_build (o := ⟨some 66, _, _, _, _, _⟩) rfl _ _ rfl (scs zs) (by simp only [List.map_toArray, List.map_nil]; exact built_rsta0) ?_)))
      refine (CE.out F y hfy).mono ?_
      rintro e y9 ⟨rfl, hB9⟩
      have hr9 := hry.old hB9
      have hb9 : Below w.heap.size w y9 := below_step hby hby.size hB9
      clear hry hby hB9
      go_wp2_with (first
        | ((with_reducible refine arm_store (o := ⟨none, _, _, _, _, _⟩) rfl _ _ _ rfl R 0 rfl (scs zs) rfl _ _ hr9 (fitS zs_ok) (scs_one _) (sz_rsta zs_ok) ?_); intro w9 hw9 ow9 sw9))
      refine bodyPost_ret (result_row2 (p := 2) (u := 3) (ty := 56) (t := 56) (by kernel_rfl) _ _ R (scs zs) (.int .i64 z) rfl rfl (hw9.congr (allS zs_ok)) (sz_rsta zs_ok)) rfl ⟨?_, ?_⟩
      · rw [HZ.out]; unfold rdS; rw [if_pos HE.out]
      · exact below_only hb9 ow9 HL.out.r hb9.size
set_option maxHeartbeats 1000000 in
set_option maxRecDepth 100000 in
theorem rread_form (b : List Nat) (p : Option Addr) (cap : Nat) (w : World) (hp : Rd w p b) (hcp : b.length ≤ cap) (hn : p = none → cap = 0) (hlow : b ≠ [] → ∀ k, blk p = some k → k < w.heap.size) (hl : b.length ≤ 1000) (hlt : AllLt 256 b) (he : endR (qs b 22) = 0) (hc : ¬ SRt (staR b)) :
    Calls Try.prog 31 #[.slice p b.length cap] w (ReadPost w b) := by
  have RK := Lib.hid (staR_ok hlt)
  have HRF : Hid (∀ w' F, Below w.heap.size w w' → Row w' F 91 (fcells p b.length cap 0 0) → RfAt w' F w.heap.size (qs b 0)) := Lib.hid (fun w' F hb hr => ⟨p, cap, b, 0, 0, ⟨hr, hp.below hb, hcp, hn, hlt, Nat.zero_le _, hlow, hb.size⟩, abs_zero b, by omega⟩)
  have CH := Lib.hid (fun F i (hi : isH i = true) (w0 : World) (h : RfAt w0 F w.heap.size (qs b i)) => (show Calls Try.prog 53 #[.pointer (some ⟨F, 0, none⟩)] w0 (RfPost w0 F w.heap.size (.agg (u8s (hv b i)).toArray) (qs b (i + 1))) from by rw [qs_h hi, hv_def]; exact fHash_any F w.heap.size (qs b i) w0 h))
  have CN := Lib.hid (fun F i (hi : isH i = false) (w0 : World) (h : RfAt w0 F w.heap.size (qs b i)) => (show Calls Try.prog 29 #[.pointer (some ⟨F, 0, none⟩), .int .i64 4] w0 (RfPost w0 F w.heap.size (.int .u64 (nv b i : Int)) (qs b (i + 1))) from by rw [qs_n hi, nv_def, four_int]; exact fNumber_any 4 F w.heap.size (qs b i) w0 h (by omega)))
  have CB1 := Lib.hid (fun F (w0 : World) (h : RfAt w0 F w.heap.size (qs b 12)) => (fback_any F w.heap.size (qs b 12) w0 h).mono (fun e w' k => (⟨by rw [k.ret, backR_now], by have := k.at_; rw [backR_now] at this; exact this, k.only⟩ : RfPost w0 F w.heap.size (.agg (dcs (staR b).now).toArray) (qs b 17) e w')))
  have CB2 := Lib.hid (fun F (w0 : World) (h : RfAt w0 F w.heap.size (qs b 17)) => (fback_any F w.heap.size (qs b 17) w0 h).mono (fun e w' k => (⟨by rw [k.ret, backR_next], by have := k.at_; rw [backR_next] at this; exact this, k.only⟩ : RfPost w0 F w.heap.size (.agg (dcs (staR b).next).toArray) (qs b 22) e w')))
  have CE := Lib.hid (fun F (w0 : World) (h : RfAt w0 F w.heap.size (qs b 22)) => fEnd_any F w.heap.size (qs b 22) w0 h)
  have HV := Lib.hid (fun i => hv_ok hlt i); have NV := Lib.hid (fun i => nv_lt hlt i)
  have MX := Lib.hid (fun i (hi : i < 22) => mix_step (staR_ok hlt) zs_ok hi)
  have ML := Lib.hid (fun i (hi : i ≤ 22) => mix_len (staR_ok hlt) zs_ok hi)
  have hz1 : (((endR (qs b 22) : Nat) : Int) != 0) = false := by rw [he]; rfl
  have RC : Hid (∀ w0, Calls Try.prog 36 #[.agg (scs (staR b)).toArray] w0 fun e w' => e = .returned (.bool false) ∧ Below w0.heap.size w0 w') := Lib.hid (fun w0 => by have := rright_any (staR b) w0 (staR_ok hlt); rw [decide_eq_false hc] at this; exact this)
  have HC := Lib.hid hc
  have HE := Lib.hid he
  obtain ⟨z, hz⟩ : ∃ z : Int, z = ((endR (qs b 22) : Nat) : Int) := ⟨_, rfl⟩
  rw [← hz] at hz1 CE
  have HZ := Lib.hid hz
  clear hp hcp hn hlow hl hlt he hc hz
  go_enter Try.func31, Try.ntmps31
  go_wp2_with (first
    | ((with_reducible refine at_slot 2 ?_); (refine arm_alloc (o := ⟨some 2, _, _, _, _, _⟩) rfl _ rfl (scs zs) z_rsta ?_); intro R w1 Re hw1 nw1)
    | ((with_reducible refine at_slot 9 ?_); (refine arm_build (o := ⟨some 9, _, _, _, _, _⟩) rfl _ _ rfl (fcells p b.length cap 0 0) (by kernel_rfl) ?_))
    | ((with_reducible refine at_slot 10 ?_); (refine arm_box (o := ⟨some 10, _, _, _, _, _⟩) rfl _ _ rfl (fcells p b.length cap 0 0) rfl ?_); intro F w2 Fe hw2 nw2)
    | ((with_reducible refine at_slot 11 ?_); (refine arm_build (o := ⟨some 11, _, _, _, _, _⟩) rfl _ _ rfl (scs zs) (by simp only [List.map_toArray, List.map_nil]; exact built_rsta0) ?_))
    | ((with_reducible refine at_slot 5 ?_); (refine arm_alloc (o := ⟨some 5, _, _, _, _, _⟩) rfl _ rfl (scs zs) z_rsta ?_); intro S w3 Se hw3 nw3)
    | ((with_reducible refine arm_store (o := ⟨none, _, _, _, _, _⟩) rfl _ _ _ rfl S 0 rfl (scs zs) rfl _ _ hw3 (fitS zs_ok) (scs_one _) (sz_rsta zs_ok) ?_); intro y hy oy sy))
  have e1 := Re.out; have e2 := Fe.out; have e3 := Se.out; have z1 := nw1.size; have z2 := nw2.size; have z3 := nw3.size
  have HL : Hid (Lq w R F S) := Lib.hid ⟨by omega, by omega, by omega, by omega, by omega, by omega⟩
  have bel3 : Below w.heap.size w w3 := (nw1.below.trans (nw2.below.mono (by omega))).trans (nw3.below.mono (by omega))
  have bely : Below w.heap.size w y := below_only bel3 oy (by omega) (by omega)
  have h0 : RqRel w R F S b 0 y := ⟨hy.congr (by rw [allS zs_ok, mix_zero zs_ok]), (HRF.out w3 F bel3 (hw2.old nw3.below)).other oy (by omega) (by omega), ((hw1.old nw2.below).old nw3.below).only oy (by omega), bely⟩
  clear hw1 nw1 hw2 nw2 hw3 nw3 hy oy sy bel3 bely e1 e2 e3 z1 z2 z3 Re Fe Se HRF
  refine (CH.out F 0 rfl y h0.rd).mono ?_
  rintro e x0 ⟨rfl, hA0, hO0⟩
  have v0 := h0.read (n := 1) HL.out hA0 hO0
  have k0 := Lib.hid (HV.out 0)
  have m0 := Lib.hid (MX.out 0 (by omega))
  have l0 := Lib.hid (ML.out 0 (by omega))
  have r0 := v0.sta
  have c0 : fC (staR b) 0 = u8s (hv b 0) := fCR_h (by omega) rfl
  rw [c0] at m0
  obtain ⟨cs0, hcs0⟩ : ∃ cs0, cs0 = mixC (staR b) zs 0 := ⟨_, rfl⟩
  rw [← hcs0] at m0 l0 r0
  obtain ⟨a0, ha0⟩ : ∃ a0, a0 = hv b 0 := ⟨_, rfl⟩
  rw [← ha0] at m0 k0
  rw [← ha0]
  clear h0 hA0 hO0 c0 hcs0 ha0
  go_wp2_with (first
    | ((with_reducible refine arm_store (o := ⟨none, _, _, _, _, _⟩) rfl _ _ _ rfl S 0 rfl (u8s a0) rfl _ _ r0 (by rw [l0.out, h_len k0.out]; omega) (u8s_one _) (szH k0.out) ?_); intro y1 hy1 oy1 sy1))
  have h1 := v0.store HL.out (hy1.congr m0.out) oy1
  clear hy1 oy1 sy1 v0 r0 m0 k0 l0
  refine (CH.out F 1 rfl y1 h1.rd).mono ?_
  rintro e x1 ⟨rfl, hA1, hO1⟩
  have v1 := h1.read (n := 1) HL.out hA1 hO1
  have k1 := Lib.hid (HV.out 1)
  have m1 := Lib.hid (MX.out 1 (by omega))
  have l1 := Lib.hid (ML.out 1 (by omega))
  have r1 := v1.sta
  have c1 : fC (staR b) 1 = u8s (hv b 1) := fCR_h (by omega) rfl
  rw [c1] at m1
  obtain ⟨cs1, hcs1⟩ : ∃ cs1, cs1 = mixC (staR b) zs 1 := ⟨_, rfl⟩
  rw [← hcs1] at m1 l1 r1
  obtain ⟨a1, ha1⟩ : ∃ a1, a1 = hv b 1 := ⟨_, rfl⟩
  rw [← ha1] at m1 k1
  rw [← ha1]
  clear h1 hA1 hO1 c1 hcs1 ha1
  go_wp2_with (first
    | ((with_reducible refine arm_store (o := ⟨none, _, _, _, _, _⟩) rfl _ _ _ rfl S 32 rfl (u8s a1) rfl _ _ r1 (by rw [l1.out, h_len k1.out]; omega) (u8s_one _) (szH k1.out) ?_); intro y2 hy2 oy2 sy2))
  have h2 := v1.store HL.out (hy2.congr m1.out) oy2
  clear hy2 oy2 sy2 v1 r1 m1 k1 l1
  refine (CH.out F 2 rfl y2 h2.rd).mono ?_
  rintro e x2 ⟨rfl, hA2, hO2⟩
  have v2 := h2.read (n := 1) HL.out hA2 hO2
  have k2 := Lib.hid (HV.out 2)
  have m2 := Lib.hid (MX.out 2 (by omega))
  have l2 := Lib.hid (ML.out 2 (by omega))
  have r2 := v2.sta
  have c2 : fC (staR b) 2 = u8s (hv b 2) := fCR_h (by omega) rfl
  rw [c2] at m2
  obtain ⟨cs2, hcs2⟩ : ∃ cs2, cs2 = mixC (staR b) zs 2 := ⟨_, rfl⟩
  rw [← hcs2] at m2 l2 r2
  obtain ⟨a2, ha2⟩ : ∃ a2, a2 = hv b 2 := ⟨_, rfl⟩
  rw [← ha2] at m2 k2
  rw [← ha2]
  clear h2 hA2 hO2 c2 hcs2 ha2
  go_wp2_with (first
    | ((with_reducible refine arm_store (o := ⟨none, _, _, _, _, _⟩) rfl _ _ _ rfl S 64 rfl (u8s a2) rfl _ _ r2 (by rw [l2.out, h_len k2.out]; omega) (u8s_one _) (szH k2.out) ?_); intro y3 hy3 oy3 sy3))
  have h3 := v2.store HL.out (hy3.congr m2.out) oy3
  clear hy3 oy3 sy3 v2 r2 m2 k2 l2
  refine (CN.out F 3 rfl y3 h3.rd).mono ?_
  rintro e x3 ⟨rfl, hA3, hO3⟩
  have v3 := h3.read (n := 1) HL.out hA3 hO3
  have k3 := NV.out 3
  have m3 := Lib.hid (MX.out 3 (by omega))
  have l3 := Lib.hid (ML.out 3 (by omega))
  have r3 := v3.sta
  have c3 : fC (staR b) 3 = [num32 (nv b 3)] := fCR_n (by omega) rfl
  rw [c3] at m3
  obtain ⟨cs3, hcs3⟩ : ∃ cs3, cs3 = mixC (staR b) zs 3 := ⟨_, rfl⟩
  rw [← hcs3] at m3 l3 r3
  obtain ⟨a3, ha3⟩ : ∃ a3, a3 = nv b 3 := ⟨_, rfl⟩
  rw [← ha3] at m3 k3
  rw [← ha3]
  have s3 : Hid (cs3.set 96 (num32 a3) = mixC (staR b) zs (3 + 1)) := Lib.hid (by rw [set_lay (by rw [l3.out]; omega)]; exact m3.out)
  clear h3 hA3 hO3 c3 hcs3 ha3
  go_wp2_with (first
    | ((with_reducible refine arm_storeV (o := ⟨none, _, _, _, _, _⟩) rfl _ _ _ rfl S 96 rfl (num32 a3) rfl rfl (by kernel_rfl) _ _ r3 (by rw [l3.out]; omega) ?_); intro y4 hy4 oy4 sy4))
  have h4 := v3.store HL.out (hy4.congr s3.out) oy4
  clear hy4 oy4 sy4 v3 r3 m3 k3 l3 s3
  refine (CN.out F 4 rfl y4 h4.rd).mono ?_
  rintro e x4 ⟨rfl, hA4, hO4⟩
  have v4 := h4.read (n := 1) HL.out hA4 hO4
  have k4 := NV.out 4
  have m4 := Lib.hid (MX.out 4 (by omega))
  have l4 := Lib.hid (ML.out 4 (by omega))
  have r4 := v4.sta
  have c4 : fC (staR b) 4 = [num32 (nv b 4)] := fCR_n (by omega) rfl
  rw [c4] at m4
  obtain ⟨cs4, hcs4⟩ : ∃ cs4, cs4 = mixC (staR b) zs 4 := ⟨_, rfl⟩
  rw [← hcs4] at m4 l4 r4
  obtain ⟨a4, ha4⟩ : ∃ a4, a4 = nv b 4 := ⟨_, rfl⟩
  rw [← ha4] at m4 k4
  rw [← ha4]
  have s4 : Hid (cs4.set 97 (num32 a4) = mixC (staR b) zs (4 + 1)) := Lib.hid (by rw [set_lay (by rw [l4.out]; omega)]; exact m4.out)
  clear h4 hA4 hO4 c4 hcs4 ha4
  go_wp2_with (first
    | ((with_reducible refine arm_storeV (o := ⟨none, _, _, _, _, _⟩) rfl _ _ _ rfl S 97 rfl (num32 a4) rfl rfl (by kernel_rfl) _ _ r4 (by rw [l4.out]; omega) ?_); intro y5 hy5 oy5 sy5))
  have h5 := v4.store HL.out (hy5.congr s4.out) oy5
  clear hy5 oy5 sy5 v4 r4 m4 k4 l4 s4
  refine (CN.out F 5 rfl y5 h5.rd).mono ?_
  rintro e x5 ⟨rfl, hA5, hO5⟩
  have v5 := h5.read (n := 1) HL.out hA5 hO5
  have k5 := NV.out 5
  have m5 := Lib.hid (MX.out 5 (by omega))
  have l5 := Lib.hid (ML.out 5 (by omega))
  have r5 := v5.sta
  have c5 : fC (staR b) 5 = [num32 (nv b 5)] := fCR_n (by omega) rfl
  rw [c5] at m5
  obtain ⟨cs5, hcs5⟩ : ∃ cs5, cs5 = mixC (staR b) zs 5 := ⟨_, rfl⟩
  rw [← hcs5] at m5 l5 r5
  obtain ⟨a5, ha5⟩ : ∃ a5, a5 = nv b 5 := ⟨_, rfl⟩
  rw [← ha5] at m5 k5
  rw [← ha5]
  have s5 : Hid (cs5.set 98 (num32 a5) = mixC (staR b) zs (5 + 1)) := Lib.hid (by rw [set_lay (by rw [l5.out]; omega)]; exact m5.out)
  clear h5 hA5 hO5 c5 hcs5 ha5
  go_wp2_with (first
    | ((with_reducible refine arm_storeV (o := ⟨none, _, _, _, _, _⟩) rfl _ _ _ rfl S 98 rfl (num32 a5) rfl rfl (by kernel_rfl) _ _ r5 (by rw [l5.out]; omega) ?_); intro y6 hy6 oy6 sy6))
  have h6 := v5.store HL.out (hy6.congr s5.out) oy6
  clear hy6 oy6 sy6 v5 r5 m5 k5 l5 s5
  refine (CN.out F 6 rfl y6 h6.rd).mono ?_
  rintro e x6 ⟨rfl, hA6, hO6⟩
  have v6 := h6.read (n := 1) HL.out hA6 hO6
  have k6 := NV.out 6
  have m6 := Lib.hid (MX.out 6 (by omega))
  have l6 := Lib.hid (ML.out 6 (by omega))
  have r6 := v6.sta
  have c6 : fC (staR b) 6 = [num32 (nv b 6)] := fCR_n (by omega) rfl
  rw [c6] at m6
  obtain ⟨cs6, hcs6⟩ : ∃ cs6, cs6 = mixC (staR b) zs 6 := ⟨_, rfl⟩
  rw [← hcs6] at m6 l6 r6
  obtain ⟨a6, ha6⟩ : ∃ a6, a6 = nv b 6 := ⟨_, rfl⟩
  rw [← ha6] at m6 k6
  rw [← ha6]
  have s6 : Hid (cs6.set 99 (num32 a6) = mixC (staR b) zs (6 + 1)) := Lib.hid (by rw [set_lay (by rw [l6.out]; omega)]; exact m6.out)
  clear h6 hA6 hO6 c6 hcs6 ha6
  go_wp2_with (first
    | ((with_reducible refine arm_storeV (o := ⟨none, _, _, _, _, _⟩) rfl _ _ _ rfl S 99 rfl (num32 a6) rfl rfl (by kernel_rfl) _ _ r6 (by rw [l6.out]; omega) ?_); intro y7 hy7 oy7 sy7))
  have h7 := v6.store HL.out (hy7.congr s6.out) oy7
  clear hy7 oy7 sy7 v6 r6 m6 k6 l6 s6
  refine (CN.out F 7 rfl y7 h7.rd).mono ?_
  rintro e x7 ⟨rfl, hA7, hO7⟩
  have v7 := h7.read (n := 1) HL.out hA7 hO7
  have k7 := NV.out 7
  obtain ⟨a7, ha7⟩ : ∃ a7, a7 = nv b 7 := ⟨_, rfl⟩
  rw [← ha7] at k7
  rw [← ha7]
  have HA7 := Lib.hid ha7
  clear h7 hA7 hO7 ha7
  go_wp2_with (first
    | ((with_reducible refine at_slot 41 ?_); (refine arm_build (o := ⟨some 41, _, _, _, _, _⟩) rfl _ _ rfl (rcs a7 [0, 0, 0, 0]) (by kernel_rfl) ?_))
    | ((with_reducible refine at_slot 6 ?_); (refine arm_alloc (o := ⟨some 6, _, _, _, _, _⟩) rfl _ rfl (rcs 0 [0, 0, 0, 0]) z_rref ?_); intro C u7 Ce hu7 nu7)
    | ((with_reducible refine arm_store (o := ⟨none, _, _, _, _, _⟩) rfl _ _ _ rfl C 0 rfl (rcs a7 [0, 0, 0, 0]) rfl _ _ hu7 (by rw [rcs_len rfl, rcs_len rfl]; omega) (rcs_one _ _) (sz_rref' rfl) ?_); intro t7 ht7 ot7 st7))
  have eC := Ce.out; have zu := nu7.size; have bx := v7.bel.size
  have lS := v7.sta.lt; have lR := v7.res.lt; have lF := v7.rd.row_lt
  have HCC : Hid (C ≠ S ∧ C ≠ R ∧ C ≠ F ∧ w.heap.size ≤ C) := Lib.hid ⟨by omega, by omega, by omega, by omega⟩
  have q7 : RvRel w R F S b 7 1 t7 := ⟨(v7.sta.old nu7.below).only ot7 (Ne.symm HCC.out.1), (v7.rd.old nu7.below).other ot7 (Ne.symm HCC.out.2.2.1) HCC.out.2.2.2, (v7.res.old nu7.below).only ot7 (Ne.symm HCC.out.2.1), below_only (below_step v7.bel bx nu7.below) ot7 HCC.out.2.2.2 (by omega)⟩
  have hC7 : Row t7 C 49 (rcs a7 (cntQ b 0)) := ht7.congr (lay_all _ _ rfl)
  have l0 : LqRel w R F S C a7 b (.int .i64 0) t7 := ⟨⟨0, by omega, rfl, hC7, q7⟩⟩
  clear v7 hu7 nu7 ht7 ot7 st7 eC zu bx lS lR lF hC7 q7 Ce
  go_loopw [7] (fun i wr => LqRel w R F S C a7 b i wr) (fun i _ => 4 - (intOf i).toNat)
  case atStart => exact l0
  case round =>
    clear l0
    obtain ⟨j, hj, rfl, hCr, hq⟩ := hrel.ex
    by_cases hlt : j < 4
    · have ik : (j : Int) < 4 := by omega
      have HQ := Lib.hid hq; have HCR := Lib.hid hCr
      have hi : isH (7 + (1 + j)) = false := cnt_not hlt
      have CNJ := Lib.hid (CN.out F (7 + (1 + j)) hi wr hq.rd)
      have hv := NV.out (7 + (1 + j))
      have HST := Lib.hid (cnt_set b hlt)
      rw [cnt_at] at HST CNJ hv
      have hidx : qs b (7 + (1 + j) + 1) = qs b (7 + (1 + (j + 1))) := by rw [show 7 + (1 + j) + 1 = 7 + (1 + (j + 1)) by omega]
      have HIX := Lib.hid hidx
      clear hq hCr hi hidx
      generalize nv b (8 + j) = v at HST CNJ hv
      obtain ⟨cs, hcs⟩ : ∃ cs, cs = cntQ b j := ⟨_, rfl⟩
      rw [← hcs] at HCR HST
      have hcl : cs.length = 4 := by rw [hcs]; rfl
      clear hcs
      go_wp2_with fail
      refine CNJ.out.mono ?_
      rintro e wa ⟨rfl, hAa, hOa⟩
      rw [HIX.out] at hAa
      have va : RvRel w R F S b 7 (1 + (j + 1)) wa := ⟨HQ.out.sta.only hOa HL.out.sf, hAa, HQ.out.res.only hOa HL.out.rf, below_only HQ.out.bel hOa HL.out.f HQ.out.bel.size⟩
      have hCa := HCR.out.only hOa HCC.out.2.2.1
      clear hAa hOa
      go_wp2_with (first
        | ((with_reducible refine arm_storeV (o := ⟨none, _, _, _, _, _⟩) rfl _ _ _ rfl C (1 + j) rfl (num32 v) rfl rfl (by kernel_rfl) _ _ hCa (by rw [rcs_len hcl]; omega) ?_); intro wb hCb hOb hZb))
      go_roundw
      case rel => exact ⟨j + 1, by omega, by go_num, hCb.congr (by rw [show num32 v = .int .u32 (v : Int) from rfl, rcs_set, HST.out]), ⟨va.sta.only hOb (Ne.symm HCC.out.1), va.rd.other hOb (Ne.symm HCC.out.2.2.1) HCC.out.2.2.2, va.res.only hOb (Ne.symm HCC.out.2.1), below_only va.bel hOb HCC.out.2.2.2 va.bel.size⟩⟩
      case measure => simp [intOf]; omega
    · obtain rfl : j = 4 := by omega
      have hCf : Row wr C 49 (rcs (staR b).last (staR b).counts) := hCr.congr (by rw [HA7.out, ← staR_last, staR_counts])
      have hkc := RK.out.counts
      have MR := Lib.hid (mix_many RK.out zs_ok 7 5 (by omega) _ (mC_ring RK.out) 100 rfl)
      have l7 := Lib.hid (ML.out 7 (by omega))
      have HQ := Lib.hid hq
      have r7 := hq.sta
      obtain ⟨cs7, hcs7⟩ : ∃ cs7, cs7 = mixC (staR b) zs 7 := ⟨_, rfl⟩
      rw [← hcs7] at MR l7 r7
      obtain ⟨rg, hrg⟩ : ∃ rg, rg = rcs (staR b).last (staR b).counts := ⟨_, rfl⟩
      have hrl : rg.length = 5 := by rw [hrg]; exact rcs_len hkc
      have hro : OneCells rg := by rw [hrg]; exact rcs_one _ _
      rw [← hrg] at MR hCf
      have HRL := Lib.hid hrl
      clear hCr hq hcs7 hrg hkc hlt hj hrl
      go_wp2_with (first
        | ((with_reducible refine at_slot 52 ?_); (refine arm_load (o := ⟨some 52, _, _, _, _, _⟩) rfl _ _ rfl C 0 rfl rg ((Has.refl _).range hCf) (by rw [HRL.out]; exact sz_rref) ?_))
        | ((with_reducible refine arm_store (o := ⟨none, _, _, _, _, _⟩) rfl _ _ _ rfl S 100 rfl rg rfl _ _ r7 (by rw [l7.out, HRL.out]; omega) hro (by rw [HRL.out]; exact sz_rref) ?_); intro y12 hy12 oy12 sy12))
      have h12 : RqRel w R F S b 12 y12 := ⟨hy12.congr MR.out, HQ.out.rd.other oy12 (Ne.symm HL.out.sf) HL.out.s, HQ.out.res.only oy12 HL.out.rs, below_only HQ.out.bel oy12 HL.out.s HQ.out.bel.size⟩
      clear hy12 oy12 sy12 r7 MR l7 HQ hCf hro HRL
      refine (CB1.out F y12 h12.rd).mono ?_
      rintro e x12 ⟨rfl, hA12, hO12⟩
      have v12 := h12.read (n := 5) HL.out hA12 hO12
      have m12 := Lib.hid (mix_many RK.out zs_ok 12 5 (by omega) _ (mC_now (staR b)) 105 rfl)
      have l12 := Lib.hid (ML.out 12 (by omega))
      have kd12 := Lib.hid RK.out.now
      have r12 := v12.sta
      obtain ⟨cs12, hcs12⟩ : ∃ cs12, cs12 = mixC (staR b) zs 12 := ⟨_, rfl⟩
      rw [← hcs12] at m12 l12 r12
      obtain ⟨d12, hd12⟩ : ∃ d12, d12 = (staR b).now := ⟨_, rfl⟩
      rw [← hd12] at m12 kd12
      rw [← hd12]
      clear h12 hA12 hO12 hcs12 hd12
      go_wp2_with (first
        | ((with_reducible refine arm_store (o := ⟨none, _, _, _, _, _⟩) rfl _ _ _ rfl S 105 rfl (dcs d12) rfl _ _ r12 (by rw [l12.out, dcs_len kd12.out]; omega) (dcs_one _) (sz_rdat kd12.out) ?_); intro y17 hy17 oy17 sy17))
      have h17 := v12.store HL.out (hy17.congr m12.out) oy17
      clear hy17 oy17 sy17 v12 r12 m12 kd12 l12
      refine (CB2.out F y17 h17.rd).mono ?_
      rintro e x17 ⟨rfl, hA17, hO17⟩
      have v17 := h17.read (n := 5) HL.out hA17 hO17
      have m17 := Lib.hid (mix_many RK.out zs_ok 17 5 (by omega) _ (mC_next (staR b)) 234 rfl)
      have l17 := Lib.hid (ML.out 17 (by omega))
      have kd17 := Lib.hid RK.out.next
      have r17 := v17.sta
      obtain ⟨cs17, hcs17⟩ : ∃ cs17, cs17 = mixC (staR b) zs 17 := ⟨_, rfl⟩
      rw [← hcs17] at m17 l17 r17
      obtain ⟨d17, hd17⟩ : ∃ d17, d17 = (staR b).next := ⟨_, rfl⟩
      rw [← hd17] at m17 kd17
      rw [← hd17]
      clear h17 hA17 hO17 hcs17 hd17
      go_wp2_with (first
        | ((with_reducible refine arm_store (o := ⟨none, _, _, _, _, _⟩) rfl _ _ _ rfl S 234 rfl (dcs d17) rfl _ _ r17 (by rw [l17.out, dcs_len kd17.out]; omega) (dcs_one _) (sz_rdat kd17.out) ?_); intro y22 hy22 oy22 sy22))
      have h22 := v17.store HL.out (hy22.congr m17.out) oy22
      clear hy22 oy22 sy22 v17 r17 m17 kd17 l17
      refine (CE.out F y22 h22.rd).mono ?_
      rintro e y ⟨rfl, hBy⟩
      have hsy : Row y S 56 (scs (staR b)) := (h22.sta.congr (mix_all RK.out)).old hBy
      have hry := h22.res.old hBy
      have hfy := h22.rd.old hBy
      have hby : Below w.heap.size w y := below_step h22.bel h22.bel.size hBy
      obtain ⟨r, hr⟩ : ∃ r, r = staR b := ⟨_, rfl⟩
      have HR := Lib.hid hr
      rw [← hr] at hsy RK
      clear h22 hBy
      rw [← hr] at RC
      clear hr
      go_wp2_with (first
        | ((with_reducible refine at_slot 69 ?_); (refine arm_load (o := ⟨some 69, _, _, _, _, _⟩) rfl _ _ rfl S 0 rfl (scs r) ((Has.refl _).range hsy) (sz_rsta RK.out) ?_)))
      refine (RC.out y).mono ?_
      rintro e y9 ⟨rfl, hB9⟩
      have hr9 := hry.old hB9; have hs9 := hsy.old hB9
      have hb9 : Below w.heap.size w y9 := below_step hby hby.size hB9
      clear hry hby hB9 hsy
      go_wp2_with (first
        | ((with_reducible refine at_slot 72 ?_); (refine arm_build (o := ⟨some 72, _, _, _, _, _⟩) rfl _ _ rfl (scs zs) (by simp only [List.map_toArray, List.map_nil]; exact built_rsta0) ?_))
        | ((with_reducible refine arm_store (o := ⟨none, _, _, _, _, _⟩) rfl _ _ _ rfl R 0 rfl (scs zs) rfl _ _ hr9 (fitS zs_ok) (scs_one _) (sz_rsta zs_ok) ?_); intro w9 hw9 ow9 sw9))
      refine bodyPost_ret (result_row2 (p := 2) (u := 3) (ty := 56) (t := 56) (by kernel_rfl) _ _ R (scs zs) (.int .i64 2) rfl rfl (hw9.congr (allS zs_ok)) (sz_rsta zs_ok)) rfl ⟨?_, ?_⟩
      · unfold rdS; rw [if_neg (by rw [HE.out]; decide), if_neg HC.out]; rfl
      · exact below_only hb9 ow9 HL.out.r hb9.size
set_option maxHeartbeats 1000000 in
set_option maxRecDepth 100000 in
theorem rread_good (b : List Nat) (p : Option Addr) (cap : Nat) (w : World) (hp : Rd w p b) (hcp : b.length ≤ cap) (hn : p = none → cap = 0) (hlow : b ≠ [] → ∀ k, blk p = some k → k < w.heap.size) (hl : b.length ≤ 1000) (hlt : AllLt 256 b) (he : endR (qs b 22) = 0) (hc : SRt (staR b)) :
    Calls Try.prog 31 #[.slice p b.length cap] w (ReadPost w b) := by
  have RK := Lib.hid (staR_ok hlt)
  have HRF : Hid (∀ w' F, Below w.heap.size w w' → Row w' F 91 (fcells p b.length cap 0 0) → RfAt w' F w.heap.size (qs b 0)) := Lib.hid (fun w' F hb hr => ⟨p, cap, b, 0, 0, ⟨hr, hp.below hb, hcp, hn, hlt, Nat.zero_le _, hlow, hb.size⟩, abs_zero b, by omega⟩)
  have CH := Lib.hid (fun F i (hi : isH i = true) (w0 : World) (h : RfAt w0 F w.heap.size (qs b i)) => (show Calls Try.prog 53 #[.pointer (some ⟨F, 0, none⟩)] w0 (RfPost w0 F w.heap.size (.agg (u8s (hv b i)).toArray) (qs b (i + 1))) from by rw [qs_h hi, hv_def]; exact fHash_any F w.heap.size (qs b i) w0 h))
  have CN := Lib.hid (fun F i (hi : isH i = false) (w0 : World) (h : RfAt w0 F w.heap.size (qs b i)) => (show Calls Try.prog 29 #[.pointer (some ⟨F, 0, none⟩), .int .i64 4] w0 (RfPost w0 F w.heap.size (.int .u64 (nv b i : Int)) (qs b (i + 1))) from by rw [qs_n hi, nv_def, four_int]; exact fNumber_any 4 F w.heap.size (qs b i) w0 h (by omega)))
  have CB1 := Lib.hid (fun F (w0 : World) (h : RfAt w0 F w.heap.size (qs b 12)) => (fback_any F w.heap.size (qs b 12) w0 h).mono (fun e w' k => (⟨by rw [k.ret, backR_now], by have := k.at_; rw [backR_now] at this; exact this, k.only⟩ : RfPost w0 F w.heap.size (.agg (dcs (staR b).now).toArray) (qs b 17) e w')))
  have CB2 := Lib.hid (fun F (w0 : World) (h : RfAt w0 F w.heap.size (qs b 17)) => (fback_any F w.heap.size (qs b 17) w0 h).mono (fun e w' k => (⟨by rw [k.ret, backR_next], by have := k.at_; rw [backR_next] at this; exact this, k.only⟩ : RfPost w0 F w.heap.size (.agg (dcs (staR b).next).toArray) (qs b 22) e w')))
  have CE := Lib.hid (fun F (w0 : World) (h : RfAt w0 F w.heap.size (qs b 22)) => fEnd_any F w.heap.size (qs b 22) w0 h)
  have HV := Lib.hid (fun i => hv_ok hlt i); have NV := Lib.hid (fun i => nv_lt hlt i)
  have MX := Lib.hid (fun i (hi : i < 22) => mix_step (staR_ok hlt) zs_ok hi)
  have ML := Lib.hid (fun i (hi : i ≤ 22) => mix_len (staR_ok hlt) zs_ok hi)
  have hz1 : (((endR (qs b 22) : Nat) : Int) != 0) = false := by rw [he]; rfl
  have RC : Hid (∀ w0, Calls Try.prog 36 #[.agg (scs (staR b)).toArray] w0 fun e w' => e = .returned (.bool true) ∧ Below w0.heap.size w0 w') := Lib.hid (fun w0 => by have := rright_any (staR b) w0 (staR_ok hlt); rw [decide_eq_true hc] at this; exact this)
  have HC := Lib.hid hc
  have HE := Lib.hid he
  obtain ⟨z, hz⟩ : ∃ z : Int, z = ((endR (qs b 22) : Nat) : Int) := ⟨_, rfl⟩
  rw [← hz] at hz1 CE
  have HZ := Lib.hid hz
  clear hp hcp hn hlow hl hlt he hc hz
  go_enter Try.func31, Try.ntmps31
  go_wp2_with (first
    | ((with_reducible refine at_slot 2 ?_); (refine arm_alloc (o := ⟨some 2, _, _, _, _, _⟩) rfl _ rfl (scs zs) z_rsta ?_); intro R w1 Re hw1 nw1)
    | ((with_reducible refine at_slot 9 ?_); (refine arm_build (o := ⟨some 9, _, _, _, _, _⟩) rfl _ _ rfl (fcells p b.length cap 0 0) (by kernel_rfl) ?_))
    | ((with_reducible refine at_slot 10 ?_); (refine arm_box (o := ⟨some 10, _, _, _, _, _⟩) rfl _ _ rfl (fcells p b.length cap 0 0) rfl ?_); intro F w2 Fe hw2 nw2)
    | ((with_reducible refine at_slot 11 ?_); (refine arm_build (o := ⟨some 11, _, _, _, _, _⟩) rfl _ _ rfl (scs zs) (by simp only [List.map_toArray, List.map_nil]; exact built_rsta0) ?_))
    | ((with_reducible refine at_slot 5 ?_); (refine arm_alloc (o := ⟨some 5, _, _, _, _, _⟩) rfl _ rfl (scs zs) z_rsta ?_); intro S w3 Se hw3 nw3)
    | ((with_reducible refine arm_store (o := ⟨none, _, _, _, _, _⟩) rfl _ _ _ rfl S 0 rfl (scs zs) rfl _ _ hw3 (fitS zs_ok) (scs_one _) (sz_rsta zs_ok) ?_); intro y hy oy sy))
  have e1 := Re.out; have e2 := Fe.out; have e3 := Se.out; have z1 := nw1.size; have z2 := nw2.size; have z3 := nw3.size
  have HL : Hid (Lq w R F S) := Lib.hid ⟨by omega, by omega, by omega, by omega, by omega, by omega⟩
  have bel3 : Below w.heap.size w w3 := (nw1.below.trans (nw2.below.mono (by omega))).trans (nw3.below.mono (by omega))
  have bely : Below w.heap.size w y := below_only bel3 oy (by omega) (by omega)
  have h0 : RqRel w R F S b 0 y := ⟨hy.congr (by rw [allS zs_ok, mix_zero zs_ok]), (HRF.out w3 F bel3 (hw2.old nw3.below)).other oy (by omega) (by omega), ((hw1.old nw2.below).old nw3.below).only oy (by omega), bely⟩
  clear hw1 nw1 hw2 nw2 hw3 nw3 hy oy sy bel3 bely e1 e2 e3 z1 z2 z3 Re Fe Se HRF
  refine (CH.out F 0 rfl y h0.rd).mono ?_
  rintro e x0 ⟨rfl, hA0, hO0⟩
  have v0 := h0.read (n := 1) HL.out hA0 hO0
  have k0 := Lib.hid (HV.out 0)
  have m0 := Lib.hid (MX.out 0 (by omega))
  have l0 := Lib.hid (ML.out 0 (by omega))
  have r0 := v0.sta
  have c0 : fC (staR b) 0 = u8s (hv b 0) := fCR_h (by omega) rfl
  rw [c0] at m0
  obtain ⟨cs0, hcs0⟩ : ∃ cs0, cs0 = mixC (staR b) zs 0 := ⟨_, rfl⟩
  rw [← hcs0] at m0 l0 r0
  obtain ⟨a0, ha0⟩ : ∃ a0, a0 = hv b 0 := ⟨_, rfl⟩
  rw [← ha0] at m0 k0
  rw [← ha0]
  clear h0 hA0 hO0 c0 hcs0 ha0
  go_wp2_with (first
    | ((with_reducible refine arm_store (o := ⟨none, _, _, _, _, _⟩) rfl _ _ _ rfl S 0 rfl (u8s a0) rfl _ _ r0 (by rw [l0.out, h_len k0.out]; omega) (u8s_one _) (szH k0.out) ?_); intro y1 hy1 oy1 sy1))
  have h1 := v0.store HL.out (hy1.congr m0.out) oy1
  clear hy1 oy1 sy1 v0 r0 m0 k0 l0
  refine (CH.out F 1 rfl y1 h1.rd).mono ?_
  rintro e x1 ⟨rfl, hA1, hO1⟩
  have v1 := h1.read (n := 1) HL.out hA1 hO1
  have k1 := Lib.hid (HV.out 1)
  have m1 := Lib.hid (MX.out 1 (by omega))
  have l1 := Lib.hid (ML.out 1 (by omega))
  have r1 := v1.sta
  have c1 : fC (staR b) 1 = u8s (hv b 1) := fCR_h (by omega) rfl
  rw [c1] at m1
  obtain ⟨cs1, hcs1⟩ : ∃ cs1, cs1 = mixC (staR b) zs 1 := ⟨_, rfl⟩
  rw [← hcs1] at m1 l1 r1
  obtain ⟨a1, ha1⟩ : ∃ a1, a1 = hv b 1 := ⟨_, rfl⟩
  rw [← ha1] at m1 k1
  rw [← ha1]
  clear h1 hA1 hO1 c1 hcs1 ha1
  go_wp2_with (first
    | ((with_reducible refine arm_store (o := ⟨none, _, _, _, _, _⟩) rfl _ _ _ rfl S 32 rfl (u8s a1) rfl _ _ r1 (by rw [l1.out, h_len k1.out]; omega) (u8s_one _) (szH k1.out) ?_); intro y2 hy2 oy2 sy2))
  have h2 := v1.store HL.out (hy2.congr m1.out) oy2
  clear hy2 oy2 sy2 v1 r1 m1 k1 l1
  refine (CH.out F 2 rfl y2 h2.rd).mono ?_
  rintro e x2 ⟨rfl, hA2, hO2⟩
  have v2 := h2.read (n := 1) HL.out hA2 hO2
  have k2 := Lib.hid (HV.out 2)
  have m2 := Lib.hid (MX.out 2 (by omega))
  have l2 := Lib.hid (ML.out 2 (by omega))
  have r2 := v2.sta
  have c2 : fC (staR b) 2 = u8s (hv b 2) := fCR_h (by omega) rfl
  rw [c2] at m2
  obtain ⟨cs2, hcs2⟩ : ∃ cs2, cs2 = mixC (staR b) zs 2 := ⟨_, rfl⟩
  rw [← hcs2] at m2 l2 r2
  obtain ⟨a2, ha2⟩ : ∃ a2, a2 = hv b 2 := ⟨_, rfl⟩
  rw [← ha2] at m2 k2
  rw [← ha2]
  clear h2 hA2 hO2 c2 hcs2 ha2
  go_wp2_with (first
    | ((with_reducible refine arm_store (o := ⟨none, _, _, _, _, _⟩) rfl _ _ _ rfl S 64 rfl (u8s a2) rfl _ _ r2 (by rw [l2.out, h_len k2.out]; omega) (u8s_one _) (szH k2.out) ?_); intro y3 hy3 oy3 sy3))
  have h3 := v2.store HL.out (hy3.congr m2.out) oy3
  clear hy3 oy3 sy3 v2 r2 m2 k2 l2
  refine (CN.out F 3 rfl y3 h3.rd).mono ?_
  rintro e x3 ⟨rfl, hA3, hO3⟩
  have v3 := h3.read (n := 1) HL.out hA3 hO3
  have k3 := NV.out 3
  have m3 := Lib.hid (MX.out 3 (by omega))
  have l3 := Lib.hid (ML.out 3 (by omega))
  have r3 := v3.sta
  have c3 : fC (staR b) 3 = [num32 (nv b 3)] := fCR_n (by omega) rfl
  rw [c3] at m3
  obtain ⟨cs3, hcs3⟩ : ∃ cs3, cs3 = mixC (staR b) zs 3 := ⟨_, rfl⟩
  rw [← hcs3] at m3 l3 r3
  obtain ⟨a3, ha3⟩ : ∃ a3, a3 = nv b 3 := ⟨_, rfl⟩
  rw [← ha3] at m3 k3
  rw [← ha3]
  have s3 : Hid (cs3.set 96 (num32 a3) = mixC (staR b) zs (3 + 1)) := Lib.hid (by rw [set_lay (by rw [l3.out]; omega)]; exact m3.out)
  clear h3 hA3 hO3 c3 hcs3 ha3
  go_wp2_with (first
    | ((with_reducible refine arm_storeV (o := ⟨none, _, _, _, _, _⟩) rfl _ _ _ rfl S 96 rfl (num32 a3) rfl rfl (by kernel_rfl) _ _ r3 (by rw [l3.out]; omega) ?_); intro y4 hy4 oy4 sy4))
  have h4 := v3.store HL.out (hy4.congr s3.out) oy4
  clear hy4 oy4 sy4 v3 r3 m3 k3 l3 s3
  refine (CN.out F 4 rfl y4 h4.rd).mono ?_
  rintro e x4 ⟨rfl, hA4, hO4⟩
  have v4 := h4.read (n := 1) HL.out hA4 hO4
  have k4 := NV.out 4
  have m4 := Lib.hid (MX.out 4 (by omega))
  have l4 := Lib.hid (ML.out 4 (by omega))
  have r4 := v4.sta
  have c4 : fC (staR b) 4 = [num32 (nv b 4)] := fCR_n (by omega) rfl
  rw [c4] at m4
  obtain ⟨cs4, hcs4⟩ : ∃ cs4, cs4 = mixC (staR b) zs 4 := ⟨_, rfl⟩
  rw [← hcs4] at m4 l4 r4
  obtain ⟨a4, ha4⟩ : ∃ a4, a4 = nv b 4 := ⟨_, rfl⟩
  rw [← ha4] at m4 k4
  rw [← ha4]
  have s4 : Hid (cs4.set 97 (num32 a4) = mixC (staR b) zs (4 + 1)) := Lib.hid (by rw [set_lay (by rw [l4.out]; omega)]; exact m4.out)
  clear h4 hA4 hO4 c4 hcs4 ha4
  go_wp2_with (first
    | ((with_reducible refine arm_storeV (o := ⟨none, _, _, _, _, _⟩) rfl _ _ _ rfl S 97 rfl (num32 a4) rfl rfl (by kernel_rfl) _ _ r4 (by rw [l4.out]; omega) ?_); intro y5 hy5 oy5 sy5))
  have h5 := v4.store HL.out (hy5.congr s4.out) oy5
  clear hy5 oy5 sy5 v4 r4 m4 k4 l4 s4
  refine (CN.out F 5 rfl y5 h5.rd).mono ?_
  rintro e x5 ⟨rfl, hA5, hO5⟩
  have v5 := h5.read (n := 1) HL.out hA5 hO5
  have k5 := NV.out 5
  have m5 := Lib.hid (MX.out 5 (by omega))
  have l5 := Lib.hid (ML.out 5 (by omega))
  have r5 := v5.sta
  have c5 : fC (staR b) 5 = [num32 (nv b 5)] := fCR_n (by omega) rfl
  rw [c5] at m5
  obtain ⟨cs5, hcs5⟩ : ∃ cs5, cs5 = mixC (staR b) zs 5 := ⟨_, rfl⟩
  rw [← hcs5] at m5 l5 r5
  obtain ⟨a5, ha5⟩ : ∃ a5, a5 = nv b 5 := ⟨_, rfl⟩
  rw [← ha5] at m5 k5
  rw [← ha5]
  have s5 : Hid (cs5.set 98 (num32 a5) = mixC (staR b) zs (5 + 1)) := Lib.hid (by rw [set_lay (by rw [l5.out]; omega)]; exact m5.out)
  clear h5 hA5 hO5 c5 hcs5 ha5
  go_wp2_with (first
    | ((with_reducible refine arm_storeV (o := ⟨none, _, _, _, _, _⟩) rfl _ _ _ rfl S 98 rfl (num32 a5) rfl rfl (by kernel_rfl) _ _ r5 (by rw [l5.out]; omega) ?_); intro y6 hy6 oy6 sy6))
  have h6 := v5.store HL.out (hy6.congr s5.out) oy6
  clear hy6 oy6 sy6 v5 r5 m5 k5 l5 s5
  refine (CN.out F 6 rfl y6 h6.rd).mono ?_
  rintro e x6 ⟨rfl, hA6, hO6⟩
  have v6 := h6.read (n := 1) HL.out hA6 hO6
  have k6 := NV.out 6
  have m6 := Lib.hid (MX.out 6 (by omega))
  have l6 := Lib.hid (ML.out 6 (by omega))
  have r6 := v6.sta
  have c6 : fC (staR b) 6 = [num32 (nv b 6)] := fCR_n (by omega) rfl
  rw [c6] at m6
  obtain ⟨cs6, hcs6⟩ : ∃ cs6, cs6 = mixC (staR b) zs 6 := ⟨_, rfl⟩
  rw [← hcs6] at m6 l6 r6
  obtain ⟨a6, ha6⟩ : ∃ a6, a6 = nv b 6 := ⟨_, rfl⟩
  rw [← ha6] at m6 k6
  rw [← ha6]
  have s6 : Hid (cs6.set 99 (num32 a6) = mixC (staR b) zs (6 + 1)) := Lib.hid (by rw [set_lay (by rw [l6.out]; omega)]; exact m6.out)
  clear h6 hA6 hO6 c6 hcs6 ha6
  go_wp2_with (first
    | ((with_reducible refine arm_storeV (o := ⟨none, _, _, _, _, _⟩) rfl _ _ _ rfl S 99 rfl (num32 a6) rfl rfl (by kernel_rfl) _ _ r6 (by rw [l6.out]; omega) ?_); intro y7 hy7 oy7 sy7))
  have h7 := v6.store HL.out (hy7.congr s6.out) oy7
  clear hy7 oy7 sy7 v6 r6 m6 k6 l6 s6
  refine (CN.out F 7 rfl y7 h7.rd).mono ?_
  rintro e x7 ⟨rfl, hA7, hO7⟩
  have v7 := h7.read (n := 1) HL.out hA7 hO7
  have k7 := NV.out 7
  obtain ⟨a7, ha7⟩ : ∃ a7, a7 = nv b 7 := ⟨_, rfl⟩
  rw [← ha7] at k7
  rw [← ha7]
  have HA7 := Lib.hid ha7
  clear h7 hA7 hO7 ha7
  go_wp2_with (first
    | ((with_reducible refine at_slot 41 ?_); (refine arm_build (o := ⟨some 41, _, _, _, _, _⟩) rfl _ _ rfl (rcs a7 [0, 0, 0, 0]) (by kernel_rfl) ?_))
    | ((with_reducible refine at_slot 6 ?_); (refine arm_alloc (o := ⟨some 6, _, _, _, _, _⟩) rfl _ rfl (rcs 0 [0, 0, 0, 0]) z_rref ?_); intro C u7 Ce hu7 nu7)
    | ((with_reducible refine arm_store (o := ⟨none, _, _, _, _, _⟩) rfl _ _ _ rfl C 0 rfl (rcs a7 [0, 0, 0, 0]) rfl _ _ hu7 (by rw [rcs_len rfl, rcs_len rfl]; omega) (rcs_one _ _) (sz_rref' rfl) ?_); intro t7 ht7 ot7 st7))
  have eC := Ce.out; have zu := nu7.size; have bx := v7.bel.size
  have lS := v7.sta.lt; have lR := v7.res.lt; have lF := v7.rd.row_lt
  have HCC : Hid (C ≠ S ∧ C ≠ R ∧ C ≠ F ∧ w.heap.size ≤ C) := Lib.hid ⟨by omega, by omega, by omega, by omega⟩
  have q7 : RvRel w R F S b 7 1 t7 := ⟨(v7.sta.old nu7.below).only ot7 (Ne.symm HCC.out.1), (v7.rd.old nu7.below).other ot7 (Ne.symm HCC.out.2.2.1) HCC.out.2.2.2, (v7.res.old nu7.below).only ot7 (Ne.symm HCC.out.2.1), below_only (below_step v7.bel bx nu7.below) ot7 HCC.out.2.2.2 (by omega)⟩
  have hC7 : Row t7 C 49 (rcs a7 (cntQ b 0)) := ht7.congr (lay_all _ _ rfl)
  have l0 : LqRel w R F S C a7 b (.int .i64 0) t7 := ⟨⟨0, by omega, rfl, hC7, q7⟩⟩
  clear v7 hu7 nu7 ht7 ot7 st7 eC zu bx lS lR lF hC7 q7 Ce
  go_loopw [7] (fun i wr => LqRel w R F S C a7 b i wr) (fun i _ => 4 - (intOf i).toNat)
  case atStart => exact l0
  case round =>
    clear l0
    obtain ⟨j, hj, rfl, hCr, hq⟩ := hrel.ex
    by_cases hlt : j < 4
    · have ik : (j : Int) < 4 := by omega
      have HQ := Lib.hid hq; have HCR := Lib.hid hCr
      have hi : isH (7 + (1 + j)) = false := cnt_not hlt
      have CNJ := Lib.hid (CN.out F (7 + (1 + j)) hi wr hq.rd)
      have hv := NV.out (7 + (1 + j))
      have HST := Lib.hid (cnt_set b hlt)
      rw [cnt_at] at HST CNJ hv
      have hidx : qs b (7 + (1 + j) + 1) = qs b (7 + (1 + (j + 1))) := by rw [show 7 + (1 + j) + 1 = 7 + (1 + (j + 1)) by omega]
      have HIX := Lib.hid hidx
      clear hq hCr hi hidx
      generalize nv b (8 + j) = v at HST CNJ hv
      obtain ⟨cs, hcs⟩ : ∃ cs, cs = cntQ b j := ⟨_, rfl⟩
      rw [← hcs] at HCR HST
      have hcl : cs.length = 4 := by rw [hcs]; rfl
      clear hcs
      go_wp2_with fail
      refine CNJ.out.mono ?_
      rintro e wa ⟨rfl, hAa, hOa⟩
      rw [HIX.out] at hAa
      have va : RvRel w R F S b 7 (1 + (j + 1)) wa := ⟨HQ.out.sta.only hOa HL.out.sf, hAa, HQ.out.res.only hOa HL.out.rf, below_only HQ.out.bel hOa HL.out.f HQ.out.bel.size⟩
      have hCa := HCR.out.only hOa HCC.out.2.2.1
      clear hAa hOa
      go_wp2_with (first
        | ((with_reducible refine arm_storeV (o := ⟨none, _, _, _, _, _⟩) rfl _ _ _ rfl C (1 + j) rfl (num32 v) rfl rfl (by kernel_rfl) _ _ hCa (by rw [rcs_len hcl]; omega) ?_); intro wb hCb hOb hZb))
      go_roundw
      case rel => exact ⟨j + 1, by omega, by go_num, hCb.congr (by rw [show num32 v = .int .u32 (v : Int) from rfl, rcs_set, HST.out]), ⟨va.sta.only hOb (Ne.symm HCC.out.1), va.rd.other hOb (Ne.symm HCC.out.2.2.1) HCC.out.2.2.2, va.res.only hOb (Ne.symm HCC.out.2.1), below_only va.bel hOb HCC.out.2.2.2 va.bel.size⟩⟩
      case measure => simp [intOf]; omega
    · obtain rfl : j = 4 := by omega
      have hCf : Row wr C 49 (rcs (staR b).last (staR b).counts) := hCr.congr (by rw [HA7.out, ← staR_last, staR_counts])
      have hkc := RK.out.counts
      have MR := Lib.hid (mix_many RK.out zs_ok 7 5 (by omega) _ (mC_ring RK.out) 100 rfl)
      have l7 := Lib.hid (ML.out 7 (by omega))
      have HQ := Lib.hid hq
      have r7 := hq.sta
      obtain ⟨cs7, hcs7⟩ : ∃ cs7, cs7 = mixC (staR b) zs 7 := ⟨_, rfl⟩
      rw [← hcs7] at MR l7 r7
      obtain ⟨rg, hrg⟩ : ∃ rg, rg = rcs (staR b).last (staR b).counts := ⟨_, rfl⟩
      have hrl : rg.length = 5 := by rw [hrg]; exact rcs_len hkc
      have hro : OneCells rg := by rw [hrg]; exact rcs_one _ _
      rw [← hrg] at MR hCf
      have HRL := Lib.hid hrl
      clear hCr hq hcs7 hrg hkc hlt hj hrl
      go_wp2_with (first
        | ((with_reducible refine at_slot 52 ?_); (refine arm_load (o := ⟨some 52, _, _, _, _, _⟩) rfl _ _ rfl C 0 rfl rg ((Has.refl _).range hCf) (by rw [HRL.out]; exact sz_rref) ?_))
        | ((with_reducible refine arm_store (o := ⟨none, _, _, _, _, _⟩) rfl _ _ _ rfl S 100 rfl rg rfl _ _ r7 (by rw [l7.out, HRL.out]; omega) hro (by rw [HRL.out]; exact sz_rref) ?_); intro y12 hy12 oy12 sy12))
      have h12 : RqRel w R F S b 12 y12 := ⟨hy12.congr MR.out, HQ.out.rd.other oy12 (Ne.symm HL.out.sf) HL.out.s, HQ.out.res.only oy12 HL.out.rs, below_only HQ.out.bel oy12 HL.out.s HQ.out.bel.size⟩
      clear hy12 oy12 sy12 r7 MR l7 HQ hCf hro HRL
      refine (CB1.out F y12 h12.rd).mono ?_
      rintro e x12 ⟨rfl, hA12, hO12⟩
      have v12 := h12.read (n := 5) HL.out hA12 hO12
      have m12 := Lib.hid (mix_many RK.out zs_ok 12 5 (by omega) _ (mC_now (staR b)) 105 rfl)
      have l12 := Lib.hid (ML.out 12 (by omega))
      have kd12 := Lib.hid RK.out.now
      have r12 := v12.sta
      obtain ⟨cs12, hcs12⟩ : ∃ cs12, cs12 = mixC (staR b) zs 12 := ⟨_, rfl⟩
      rw [← hcs12] at m12 l12 r12
      obtain ⟨d12, hd12⟩ : ∃ d12, d12 = (staR b).now := ⟨_, rfl⟩
      rw [← hd12] at m12 kd12
      rw [← hd12]
      clear h12 hA12 hO12 hcs12 hd12
      go_wp2_with (first
        | ((with_reducible refine arm_store (o := ⟨none, _, _, _, _, _⟩) rfl _ _ _ rfl S 105 rfl (dcs d12) rfl _ _ r12 (by rw [l12.out, dcs_len kd12.out]; omega) (dcs_one _) (sz_rdat kd12.out) ?_); intro y17 hy17 oy17 sy17))
      have h17 := v12.store HL.out (hy17.congr m12.out) oy17
      clear hy17 oy17 sy17 v12 r12 m12 kd12 l12
      refine (CB2.out F y17 h17.rd).mono ?_
      rintro e x17 ⟨rfl, hA17, hO17⟩
      have v17 := h17.read (n := 5) HL.out hA17 hO17
      have m17 := Lib.hid (mix_many RK.out zs_ok 17 5 (by omega) _ (mC_next (staR b)) 234 rfl)
      have l17 := Lib.hid (ML.out 17 (by omega))
      have kd17 := Lib.hid RK.out.next
      have r17 := v17.sta
      obtain ⟨cs17, hcs17⟩ : ∃ cs17, cs17 = mixC (staR b) zs 17 := ⟨_, rfl⟩
      rw [← hcs17] at m17 l17 r17
      obtain ⟨d17, hd17⟩ : ∃ d17, d17 = (staR b).next := ⟨_, rfl⟩
      rw [← hd17] at m17 kd17
      rw [← hd17]
      clear h17 hA17 hO17 hcs17 hd17
      go_wp2_with (first
        | ((with_reducible refine arm_store (o := ⟨none, _, _, _, _, _⟩) rfl _ _ _ rfl S 234 rfl (dcs d17) rfl _ _ r17 (by rw [l17.out, dcs_len kd17.out]; omega) (dcs_one _) (sz_rdat kd17.out) ?_); intro y22 hy22 oy22 sy22))
      have h22 := v17.store HL.out (hy22.congr m17.out) oy22
      clear hy22 oy22 sy22 v17 r17 m17 kd17 l17
      refine (CE.out F y22 h22.rd).mono ?_
      rintro e y ⟨rfl, hBy⟩
      have hsy : Row y S 56 (scs (staR b)) := (h22.sta.congr (mix_all RK.out)).old hBy
      have hry := h22.res.old hBy
      have hfy := h22.rd.old hBy
      have hby : Below w.heap.size w y := below_step h22.bel h22.bel.size hBy
      obtain ⟨r, hr⟩ : ∃ r, r = staR b := ⟨_, rfl⟩
      have HR := Lib.hid hr
      rw [← hr] at hsy RK
      clear h22 hBy
      rw [← hr] at RC
      clear hr
      go_wp2_with (first
        | ((with_reducible refine at_slot 69 ?_); (refine arm_load (o := ⟨some 69, _, _, _, _, _⟩) rfl _ _ rfl S 0 rfl (scs r) ((Has.refl _).range hsy) (sz_rsta RK.out) ?_)))
      refine (RC.out y).mono ?_
      rintro e y9 ⟨rfl, hB9⟩
      have hr9 := hry.old hB9; have hs9 := hsy.old hB9
      have hb9 : Below w.heap.size w y9 := below_step hby hby.size hB9
      clear hry hby hB9 hsy
      go_wp2_with (first
        | ((with_reducible refine at_slot 73 ?_); (refine arm_load (o := ⟨some 73, _, _, _, _, _⟩) rfl _ _ rfl S 0 rfl (scs r) ((Has.refl _).range hs9) (sz_rsta RK.out) ?_))
        | ((with_reducible refine arm_store (o := ⟨none, _, _, _, _, _⟩) rfl _ _ _ rfl R 0 rfl (scs r) rfl _ _ hr9 (fitS RK.out) (scs_one _) (sz_rsta RK.out) ?_); intro w9 hw9 ow9 sw9))
      refine bodyPost_ret (result_row2 (p := 2) (u := 3) (ty := 56) (t := 56) (by kernel_rfl) _ _ R (scs r) (.int .i64 0) rfl rfl (hw9.congr (allS RK.out)) (sz_rsta RK.out)) rfl ⟨?_, ?_⟩
      · unfold rdS; rw [if_neg (by rw [HE.out]; decide), if_pos HC.out, HR.out]; rfl
      · exact below_only hb9 ow9 HL.out.r hb9.size
end
theorem rread_any (b : List Nat) (p : Option Addr) (cap : Nat) (w : World) (hp : Rd w p b) (hcp : b.length ≤ cap) (hn : p = none → cap = 0) (hlow : b ≠ [] → ∀ k, blk p = some k → k < w.heap.size) (hl : b.length ≤ 1000) (hlt : AllLt 256 b) :
    Calls Try.prog 31 #[.slice p b.length cap] w (ReadPost w b) := by
  by_cases he : endR (qs b 22) = 0
  · by_cases hc : SRt (staR b)
    · exact rread_good b p cap w hp hcp hn hlow hl hlt he hc
    · exact rread_form b p cap w hp hcp hn hlow hl hlt he hc
  · exact rread_bad b p cap w hp hcp hn hlow hl hlt he
end Go.Proofs.Ytghogoijjaiccaa.Sa
