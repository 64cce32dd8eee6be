/-
  The walk of layer 11's statement LinkOne, out of the contracts: it returns true, and changes nothing that was there. Over this seat's translation.
-/
import Derived.Test.YtphbpndjebfacaaDoorLnkAwake
import Derived.Test.YtphbpndjebfacaaDoorLnkBump
import Derived.Test.YtphbpndjebfacaaDoorGroMem
import Derived.Deep.CutBlock
import Derived.Deep.DeepCutAuto
namespace Go.Proofs.YtphbpndjebfacaaDoor.Lk
open Go.ChangeShapes Go.WideShapes Go.ChangeAt Go.RowKit Go.Proofs.YtphbpndjebfacaaDoor.Mem Go.Proofs.YtphbpndjebfacaaDoor.Bt Go.Proofs.YtphbpndjebfacaaDoor.Rg Go.Proofs.YtphbpndjebfacaaDoor.Wn Go.Proofs.YtphbpndjebfacaaDoor.Sa Go.Proofs.YtphbpndjebfacaaDoor.Sha Go.Proofs.YtphbpndjebfacaaDoor.Gr Go.Proofs.YtphbpndjebfacaaDoor.Sl
open Go.Proofs.YtphbpndjebfacaaDoor.Ep (H32 Dat Blk zh zh_ok num32 zd zd_ok Has h_len one_app one_num szH zH fitH allH)
set_option linter.unusedVariables false
set_option linter.unusedSimpArgs false

/-- A state that has a block's Slot, Ledger and Draw alone. -/
def ofGb (b : Gb) : Sta := { zs with slot := b.slot, led := b.led, draw := b.draw }
theorem ofGb_ok {b : Gb} (k : b.Ok) : (ofGb b).Ok := ⟨zs_ok.prev, k.led, k.draw, k.slot, zs_ok.len, zs_ok.count, zs_ok.min, zs_ok.last, zs_ok.counts, zs_ok.clt, zs_ok.now, zs_ok.next⟩
theorem gbOf_of (b : Gb) : gbOf (ofGb b) = b := rfl
theorem built_of {b : Gb} (k : b.Ok) : Tryd.prog.built 35 [(3, num32 b.slot), (1, .agg (u8s b.led).toArray), (2, .agg (u8s b.draw).toArray)] = some (scs (ofGb b)).toArray := by
  have z := zs_ok
  rw [shape_sta, f_slt z, f_ledg (s := { zs with slot := b.slot }) ⟨z.prev, z.led, z.draw, k.slot, z.len, z.count, z.min, z.last, z.counts, z.clt, z.now, z.next⟩ _ k.led,
    f_drw (s := { zs with slot := b.slot, led := b.led }) ⟨z.prev, k.led, z.draw, k.slot, z.len, z.count, z.min, z.last, z.counts, z.clt, z.now, z.next⟩ _ k.draw, fill_done]
  rfl
theorem nine (n : Nat) : n % 9 = 0 ∨ n % 9 = 1 ∨ n % 9 = 2 ∨ n % 9 = 3 ∨ n % 9 = 4 ∨ n % 9 = 5 ∨ n % 9 = 6 ∨ n % 9 = 7 ∨ n % 9 = 8 := by omega
set_option maxHeartbeats 4000000 in
set_option maxRecDepth 100000 in
theorem linkOne_not (p : Sta) (b : Gb) (n : Nat) (w : World) (ok : p.Ok) (kb : b.Ok) (hn : n < 256) (hk : w.rangeAt 0 0 (u32s ks)) (hr : ¬ SRt p) :
    Calls Tryd.prog 4 #[.agg (scs p).toArray, .agg (gcs b).toArray, .int .u8 (n : Int)] w fun e w' => e = .returned (.bool true) ∧ Below w.heap.size w w' := by
  have hk1 : 0 < w.heap.size := range_lt hk (by simp [u32s, ks])
  have HKW : Hid (∀ w', Below w.heap.size w w' → w'.rangeAt 0 0 (u32s ks)) := Lib.hid fun w' hb => range_block hk (hb.block _ hk1)
  have OK := Lib.hid ok; have KB := Lib.hid kb
  have CA := Lib.hid (fun w0 h => awake_any w0 h)
  have CR := Lib.hid (fun w0 => right_any p w0 ok)
  rw [decide_eq_false hr] at CR
  clear ok kb hk hk1 hr
  go_enter Tryd.func4, Tryd.ntmps4
  go_wp2_with (first
    | ((with_reducible refine at_slot 3 ?_); (refine arm_box (o := ⟨some 3, _, _, _, _, _⟩) rfl _ _ rfl (scs p) rfl ?_); intro P v1 Pe hv1 nv1)
    | ((with_reducible refine at_slot 4 ?_); (refine arm_box (o := ⟨some 4, _, _, _, _, _⟩) rfl _ _ rfl (gcs b) rfl ?_); intro B v2 Be hv2 nv2))
  have q0 := Pe.out
  have q1 := nv1.size
  have q2 := Be.out
  have q3 := nv2.size
  have lP : w.heap.size ≤ P := by omega
  have lB : w.heap.size ≤ B := by omega
  have nPB : P ≠ B := by omega
  have nBP : B ≠ P := by omega
  have rP3 : Row v2 P 35 (scs p) := (hv1.old nv2.below)
  have rB3 : Row v2 B 57 (gcs b) := hv2
  have bel3 : Below w.heap.size w v2 := (below_step (below_step (Below.refl _ _) (by omega) nv1.below) (by omega) nv2.below)
  clear q0 q1 q2 q3 Pe hv1 nv1 Be hv2 nv2
  refine (CA.out _ (HKW.out _ bel3)).mono ?_
  rintro e y4 ⟨rfl, hB⟩
  have rP4 : Row y4 P 35 (scs p) := rP3.old hB
  have rB4 : Row y4 B 57 (gcs b) := rB3.old hB
  have bel4 : Below w.heap.size w y4 := below_step bel3 bel3.size hB
  clear hB rP3 rB3 bel3
  go_wp2_with (first
    | ((with_reducible refine at_slot 12 ?_); (refine arm_load (o := ⟨some 12, _, _, _, _, _⟩) rfl _ _ rfl P 0 rfl (scs p) ((show Has (scs p) 0 (scs p) from Has.refl _).range (rP4)) (sz_sta OK.out) ?_)))
  refine (CR.out _).mono ?_
  rintro e y5 ⟨rfl, hB⟩
  have rP5 : Row y5 P 35 (scs p) := rP4.old hB
  have rB5 : Row y5 B 57 (gcs b) := rB4.old hB
  have bel5 : Below w.heap.size w y5 := below_step bel4 bel4.size hB
  clear hB rP4 rB4 bel4
  go_wp2_with fail
  go_ret
  exact ⟨rfl, bel5⟩
set_option maxHeartbeats 4000000 in
set_option maxRecDepth 100000 in
theorem linkOne_right (p : Sta) (b : Gb) (n : Nat) (w : World) (ok : p.Ok) (kb : b.Ok) (hn : n < 256) (hk : w.rangeAt 0 0 (u32s ks)) (hr : SRt p) :
    Calls Tryd.prog 4 #[.agg (scs p).toArray, .agg (gcs b).toArray, .int .u8 (n : Int)] w fun e w' => e = .returned (.bool true) ∧ Below w.heap.size w w' := by
  have hk1 : 0 < w.heap.size := range_lt hk (by simp [u32s, ks])
  have HKW : Hid (∀ w', Below w.heap.size w w' → w'.rangeAt 0 0 (u32s ks)) := Lib.hid fun w' hb => range_block hk (hb.block _ hk1)
  have OK := Lib.hid ok; have KB := Lib.hid kb
  have CA := Lib.hid (fun w0 h => awake_any w0 h)
  have CR := Lib.hid (fun w0 => right_any p w0 ok)
  rw [decide_eq_true hr] at CR
  have CC := Lib.hid (fun w0 h => child_any p b w0 ok hr kb h)
  have KC := Lib.hid (chS_ok ok hr kb)
  have KO := Lib.hid (ofGb_ok kb)
  have BO := Lib.hid (built_of kb)
  have HB : Hid (chE p b ≠ 0 → ∀ w0, w0.rangeAt 0 0 (u32s ks) → Calls Tryd.prog 9 #[.agg (scs p).toArray, .agg (scs (ofGb b)).toArray] w0 fun e w' => e = .returned (.int .i64 (chE p b)) ∧ Below w0.heap.size w0 w') := Lib.hid fun hz w0 h => by
    have c := follows_any p (ofGb b) w0 ok hr KO.out h
    rw [folE_bad (by rw [gbOf_of]; exact hz), gbOf_of] at c
    exact c
  have HG : Hid (chE p b = 0 → ∀ w0, w0.rangeAt 0 0 (u32s ks) → Calls Tryd.prog 9 #[.agg (scs p).toArray, .agg (scs (chS p b)).toArray] w0 fun e w' => e = .returned (.int .i64 0) ∧ Below w0.heap.size w0 w') := Lib.hid fun hz w0 h => by
    have c := follows_any p (chS p b) w0 ok hr KC.out h
    rw [fol_child hz] at c
    exact c
  have HD : Hid (chE p b = 0 → ∀ d : Sta, d.Ok → gbOf d = gbOf (chS p b) → d ≠ chS p b → ∀ w0, w0.rangeAt 0 0 (u32s ks) → Calls Tryd.prog 9 #[.agg (scs p).toArray, .agg (scs d).toArray] w0 fun e w' => e = .returned (.int .i64 7) ∧ Below w0.heap.size w0 w') := Lib.hid fun hz d kd hg hne w0 h => by
    have c := follows_any p d w0 ok hr kd h
    have e : gbOf d = b := by rw [hg, gbOf_ch hz]
    rw [folE_no (by rw [e]; exact hz) (by rw [e]; exact fun x => hne x.symm)] at c
    exact c
  have HN := Lib.hid hn
  generalize chS p b = c at CC KC HG HD
  generalize chE p b = z at CC HB HG HD
  clear ok kb hk hk1 hr hn
  go_enter Tryd.func4, Tryd.ntmps4
  go_wp2_with (first
    | ((with_reducible refine at_slot 3 ?_); (refine arm_box (o := ⟨some 3, _, _, _, _, _⟩) rfl _ _ rfl (scs p) rfl ?_); intro P v1 Pe hv1 nv1)
    | ((with_reducible refine at_slot 4 ?_); (refine arm_box (o := ⟨some 4, _, _, _, _, _⟩) rfl _ _ rfl (gcs b) rfl ?_); intro B v2 Be hv2 nv2))
  have q0 := Pe.out
  have q1 := nv1.size
  have q2 := Be.out
  have q3 := nv2.size
  have lP : w.heap.size ≤ P := by omega
  have lB : w.heap.size ≤ B := by omega
  have nPB : P ≠ B := by omega
  have nBP : B ≠ P := by omega
  have rP3 : Row v2 P 35 (scs p) := (hv1.old nv2.below)
  have rB3 : Row v2 B 57 (gcs b) := hv2
  have bel3 : Below w.heap.size w v2 := (below_step (below_step (Below.refl _ _) (by omega) nv1.below) (by omega) nv2.below)
  clear q0 q1 q2 q3 Pe hv1 nv1 Be hv2 nv2
  refine (CA.out _ (HKW.out _ bel3)).mono ?_
  rintro e y4 ⟨rfl, hB⟩
  have rP4 : Row y4 P 35 (scs p) := rP3.old hB
  have rB4 : Row y4 B 57 (gcs b) := rB3.old hB
  have bel4 : Below w.heap.size w y4 := below_step bel3 bel3.size hB
  clear hB rP3 rB3 bel3
  go_wp2_with (first
    | ((with_reducible refine at_slot 12 ?_); (refine arm_load (o := ⟨some 12, _, _, _, _, _⟩) rfl _ _ rfl P 0 rfl (scs p) ((show Has (scs p) 0 (scs p) from Has.refl _).range (rP4)) (sz_sta OK.out) ?_)))
  refine (CR.out _).mono ?_
  rintro e y5 ⟨rfl, hB⟩
  have rP5 : Row y5 P 35 (scs p) := rP4.old hB
  have rB5 : Row y5 B 57 (gcs b) := rB4.old hB
  have bel5 : Below w.heap.size w y5 := below_step bel4 bel4.size hB
  clear hB rP4 rB4 bel4
  go_wp2_with (first
    | ((with_reducible refine at_slot 16 ?_); (refine arm_load (o := ⟨some 16, _, _, _, _, _⟩) rfl _ _ rfl P 0 rfl (scs p) ((show Has (scs p) 0 (scs p) from Has.refl _).range (rP5)) (sz_sta OK.out) ?_))
    | ((with_reducible refine at_slot 17 ?_); (refine arm_load (o := ⟨some 17, _, _, _, _, _⟩) rfl _ _ rfl B 0 rfl (gcs b) ((show Has (gcs b) 0 (gcs b) from Has.refl _).range (rB5)) (sz_gb KB.out) ?_)))
  refine (CC.out _ (HKW.out _ bel5)).mono ?_
  rintro e y6 ⟨rfl, hB⟩
  have rP6 : Row y6 P 35 (scs p) := rP5.old hB
  have rB6 : Row y6 B 57 (gcs b) := rB5.old hB
  have bel6 : Below w.heap.size w y6 := below_step bel5 bel5.size hB
  clear hB rP5 rB5 bel5
  by_cases hz : z = 0
  · obtain rfl := hz
    replace HG := Lib.hid (HG.out rfl)
    replace HD := Lib.hid (HD.out rfl)
    clear HB
    obtain ⟨r, hr⟩ : ∃ r, r = n % 9 := ⟨_, rfl⟩
    have HR := Lib.hid hr
    have HT : Hid ((n : Int).tmod 9 = (r : Int)) := Lib.hid (by rw [hr, Int.tmod_eq_emod_of_nonneg (by omega)]; omega)
    clear hr
    go_upto_block 0 with (first
      | ((with_reducible refine at_slot 7 ?_); (refine arm_alloc (o := ⟨some 7, _, _, _, _, _⟩) rfl _ rfl (scs zs) z_sta ?_); intro C v7 Ce hv7 nv7)
      | ((with_reducible refine arm_store (o := ⟨none, _, _, _, _, _⟩) rfl _ _ _ rfl C 0 rfl (scs c) rfl _ _ (hv7) (fitS KC.out) (scs_one _) (sz_sta KC.out) ?_); intro v8 hv8 ov8 sv8)
      | ((with_reducible refine at_slot 34 ?_); (refine arm_load (o := ⟨some 34, _, _, _, _, _⟩) rfl _ _ rfl C 0 rfl (scs c) ((show Has (scs c) 0 (scs c) from Has.refl _).range ((hv8.congr (allS KC.out)))) (sz_sta KC.out) ?_))
      | ((with_reducible refine at_slot 9 ?_); (refine arm_alloc (o := ⟨some 9, _, _, _, _, _⟩) rfl _ rfl (scs zs) z_sta ?_); intro D v9 De hv9 nv9)
      | ((with_reducible refine arm_store (o := ⟨none, _, _, _, _, _⟩) rfl _ _ _ rfl D 0 rfl (scs c) rfl _ _ (hv9) (fitS KC.out) (scs_one _) (sz_sta KC.out) ?_); intro v10 hv10 ov10 sv10))
    have q0 := Ce.out
    have q1 := nv7.size
    have q2 := sv8.out
    have q3 := De.out
    have q4 := nv9.size
    have q5 := sv10.out
    have q6 := rP6.lt
    have q7 := rB6.lt
    have q8 := bel6.size
    have lC : w.heap.size ≤ C := by omega
    have nPC : P ≠ C := by omega
    have nCP : C ≠ P := by omega
    have nBC : B ≠ C := by omega
    have nCB : C ≠ B := by omega
    have lD : w.heap.size ≤ D := by omega
    have nPD : P ≠ D := by omega
    have nDP : D ≠ P := by omega
    have nBD : B ≠ D := by omega
    have nDB : D ≠ B := by omega
    have nCD : C ≠ D := by omega
    have nDC : D ≠ C := by omega
    have rP11 : Row v10 P 35 (scs p) := ((((rP6.old nv7.below).only ov8 nPC).old nv9.below).only ov10 nPD)
    have rB11 : Row v10 B 57 (gcs b) := ((((rB6.old nv7.below).only ov8 nBC).old nv9.below).only ov10 nBD)
    have rC11 : Row v10 C 35 (scs c) := (((hv8.congr (allS KC.out)).old nv9.below).only ov10 nCD)
    have rD11 : Row v10 D 35 (scs c) := (hv10.congr (allS KC.out))
    have bel11 : Below w.heap.size w v10 := (below_only (below_step (below_only (below_step bel6 (by omega) nv7.below) ov8 lC (by omega)) (by omega) nv9.below) ov10 lD (by omega))
    clear q0 q1 q2 q3 q4 q5 q6 q7 q8 rP6 rB6 bel6 Ce hv7 nv7 hv8 ov8 sv8 De hv9 nv9 hv10 ov10 sv10
    try simp only [Act.put]
    go_cut [36] (fun vx wx => ∃ d : Sta, d.Ok ∧ gbOf d = gbOf c ∧ d ≠ c ∧ Row wx P 35 (scs p) ∧ Row wx B 57 (gcs b) ∧ Row wx C 35 (scs c) ∧ Row wx D 35 (scs d) ∧ Below w.heap.size w wx)
    case first => as_aux_lemma =>
      have h9 := nine n
      rw [← HR.out] at h9
      rcases h9 with h0 | h1 | h2 | h3 | h4 | h5 | h6 | h7 | h8
      · subst h0
        obtain ⟨x, d, hc, kd, he, hg, hne⟩ := (bump_prev KC.out).ex
        have HC := Lib.hid hc; have KD := Lib.hid kd; have HE := Lib.hid he
        have HA : Hid (IntKind.u8.wrap ((x : Int) + 1) = ((x : Int) + 1) % 256) := Lib.hid (by simp [IntKind.wrap, IntKind.signed, IntKind.bits])
        have h36 : (n : Int) % 9 = 0 := by have := HT.out; rwa [Int.tmod_eq_emod_of_nonneg (by omega)] at this
        clear hc kd he HR HT
        go_wp2_with (first
          | ((with_reducible refine at_slot 41 ?_); (refine arm_want (.int .u8 (x : Int)) 41 rfl (by kernel_rfl) (run_op_load1 _ _ rfl (.int .u8) (by kernel_rfl) rfl ⟨D, 0, none⟩ rfl (.int .u8 (x : Int)) (rD11.cell HC.out)) ?_))
          | ((with_reducible refine at_slot 42 ?_); (refine arm_want (.int .u8 (((x : Int) + 1) % 256)) 42 rfl (by kernel_rfl) (run_op_addK _ _ _ _ rfl .u8 (x : Int) 1 _ rfl rfl HA.out _) ?_))
          | ((with_reducible refine arm_store1 (o := ⟨none, _, _, _, _, _⟩) rfl _ _ _ rfl D 0 rfl .u8 (((x : Int) + 1) % 256) rfl (by kernel_rfl) _ _ (rD11) (by rw [scs_len KC.out]; decide) ?_); intro v12 hv12 ov12 sv12))
        have q0 := sv12.out
        have q1 := rP11.lt
        have q2 := rB11.lt
        have q3 := rC11.lt
        have q4 := rD11.lt
        have q5 := bel11.size
        have rP13 : Row v12 P 35 (scs p) := (rP11.only ov12 nPD)
        have rB13 : Row v12 B 57 (gcs b) := (rB11.only ov12 nBD)
        have rC13 : Row v12 C 35 (scs c) := (rC11.only ov12 nCD)
        have rD13 : Row v12 D 35 (scs d) := (hv12.congr HE.out.symm)
        have bel13 : Below w.heap.size w v12 := (below_only bel11 ov12 lD (by omega))
        clear q0 q1 q2 q3 q4 q5 rP11 rB11 rC11 rD11 bel11 hv12 ov12 sv12
        simp only [Act.put]
        go_meet
        exact ⟨d, KD.out, hg, hne, rP13, rB13, rC13, rD13, bel13⟩
      · subst h1
        obtain ⟨x, d, hc, kd, he, hg, hne⟩ := (bump_len KC.out).ex
        have HC := Lib.hid hc; have KD := Lib.hid kd; have HE := Lib.hid he
        have HA : Hid (IntKind.u32.wrap ((x : Int) + 1) = ((x : Int) + 1) % 4294967296) := Lib.hid (by simp [IntKind.wrap, IntKind.signed, IntKind.bits])
        have h36 : (n : Int) % 9 = 1 := by have := HT.out; rwa [Int.tmod_eq_emod_of_nonneg (by omega)] at this
        clear hc kd he HR HT
        go_wp2_with (first
          | ((with_reducible refine at_slot 48 ?_); (refine arm_want (.int .u32 (x : Int)) 48 rfl (by kernel_rfl) (run_op_load1 _ _ rfl (.int .u32) (by kernel_rfl) rfl ⟨D, 97, none⟩ rfl (.int .u32 (x : Int)) (rD11.cell HC.out)) ?_))
          | ((with_reducible refine at_slot 49 ?_); (refine arm_want (.int .u32 (((x : Int) + 1) % 4294967296)) 49 rfl (by kernel_rfl) (run_op_addK _ _ _ _ rfl .u32 (x : Int) 1 _ rfl rfl HA.out _) ?_))
          | ((with_reducible refine arm_store1 (o := ⟨none, _, _, _, _, _⟩) rfl _ _ _ rfl D 97 rfl .u32 (((x : Int) + 1) % 4294967296) rfl (by kernel_rfl) _ _ (rD11) (by rw [scs_len KC.out]; decide) ?_); intro v12 hv12 ov12 sv12))
        have q0 := sv12.out
        have q1 := rP11.lt
        have q2 := rB11.lt
        have q3 := rC11.lt
        have q4 := rD11.lt
        have q5 := bel11.size
        have rP13 : Row v12 P 35 (scs p) := (rP11.only ov12 nPD)
        have rB13 : Row v12 B 57 (gcs b) := (rB11.only ov12 nBD)
        have rC13 : Row v12 C 35 (scs c) := (rC11.only ov12 nCD)
        have rD13 : Row v12 D 35 (scs d) := (hv12.congr HE.out.symm)
        have bel13 : Below w.heap.size w v12 := (below_only bel11 ov12 lD (by omega))
        clear q0 q1 q2 q3 q4 q5 rP11 rB11 rC11 rD11 bel11 hv12 ov12 sv12
        simp only [Act.put]
        go_meet
        exact ⟨d, KD.out, hg, hne, rP13, rB13, rC13, rD13, bel13⟩
      · subst h2
        obtain ⟨x, d, hc, kd, he, hg, hne⟩ := (bump_count KC.out).ex
        have HC := Lib.hid hc; have KD := Lib.hid kd; have HE := Lib.hid he
        have HA : Hid (IntKind.u32.wrap ((x : Int) + 1) = ((x : Int) + 1) % 4294967296) := Lib.hid (by simp [IntKind.wrap, IntKind.signed, IntKind.bits])
        have h36 : (n : Int) % 9 = 2 := by have := HT.out; rwa [Int.tmod_eq_emod_of_nonneg (by omega)] at this
        clear hc kd he HR HT
        go_wp2_with (first
          | ((with_reducible refine at_slot 54 ?_); (refine arm_want (.int .u32 (x : Int)) 54 rfl (by kernel_rfl) (run_op_load1 _ _ rfl (.int .u32) (by kernel_rfl) rfl ⟨D, 98, none⟩ rfl (.int .u32 (x : Int)) (rD11.cell HC.out)) ?_))
          | ((with_reducible refine at_slot 55 ?_); (refine arm_want (.int .u32 (((x : Int) + 1) % 4294967296)) 55 rfl (by kernel_rfl) (run_op_addK _ _ _ _ rfl .u32 (x : Int) 1 _ rfl rfl HA.out _) ?_))
          | ((with_reducible refine arm_store1 (o := ⟨none, _, _, _, _, _⟩) rfl _ _ _ rfl D 98 rfl .u32 (((x : Int) + 1) % 4294967296) rfl (by kernel_rfl) _ _ (rD11) (by rw [scs_len KC.out]; decide) ?_); intro v12 hv12 ov12 sv12))
        have q0 := sv12.out
        have q1 := rP11.lt
        have q2 := rB11.lt
        have q3 := rC11.lt
        have q4 := rD11.lt
        have q5 := bel11.size
        have rP13 : Row v12 P 35 (scs p) := (rP11.only ov12 nPD)
        have rB13 : Row v12 B 57 (gcs b) := (rB11.only ov12 nBD)
        have rC13 : Row v12 C 35 (scs c) := (rC11.only ov12 nCD)
        have rD13 : Row v12 D 35 (scs d) := (hv12.congr HE.out.symm)
        have bel13 : Below w.heap.size w v12 := (below_only bel11 ov12 lD (by omega))
        clear q0 q1 q2 q3 q4 q5 rP11 rB11 rC11 rD11 bel11 hv12 ov12 sv12
        simp only [Act.put]
        go_meet
        exact ⟨d, KD.out, hg, hne, rP13, rB13, rC13, rD13, bel13⟩
      · subst h3
        obtain ⟨x, d, hc, kd, he, hg, hne⟩ := (bump_min KC.out).ex
        have HC := Lib.hid hc; have KD := Lib.hid kd; have HE := Lib.hid he
        have HA : Hid (IntKind.u32.wrap ((x : Int) + 1) = ((x : Int) + 1) % 4294967296) := Lib.hid (by simp [IntKind.wrap, IntKind.signed, IntKind.bits])
        have h36 : (n : Int) % 9 = 3 := by have := HT.out; rwa [Int.tmod_eq_emod_of_nonneg (by omega)] at this
        clear hc kd he HR HT
        go_wp2_with (first
          | ((with_reducible refine at_slot 61 ?_); (refine arm_want (.int .u32 (x : Int)) 61 rfl (by kernel_rfl) (run_op_load1 _ _ rfl (.int .u32) (by kernel_rfl) rfl ⟨D, 99, none⟩ rfl (.int .u32 (x : Int)) (rD11.cell HC.out)) ?_))
          | ((with_reducible refine at_slot 62 ?_); (refine arm_want (.int .u32 (((x : Int) + 1) % 4294967296)) 62 rfl (by kernel_rfl) (run_op_addK _ _ _ _ rfl .u32 (x : Int) 1 _ rfl rfl HA.out _) ?_))
          | ((with_reducible refine arm_store1 (o := ⟨none, _, _, _, _, _⟩) rfl _ _ _ rfl D 99 rfl .u32 (((x : Int) + 1) % 4294967296) rfl (by kernel_rfl) _ _ (rD11) (by rw [scs_len KC.out]; decide) ?_); intro v12 hv12 ov12 sv12))
        have q0 := sv12.out
        have q1 := rP11.lt
        have q2 := rB11.lt
        have q3 := rC11.lt
        have q4 := rD11.lt
        have q5 := bel11.size
        have rP13 : Row v12 P 35 (scs p) := (rP11.only ov12 nPD)
        have rB13 : Row v12 B 57 (gcs b) := (rB11.only ov12 nBD)
        have rC13 : Row v12 C 35 (scs c) := (rC11.only ov12 nCD)
        have rD13 : Row v12 D 35 (scs d) := (hv12.congr HE.out.symm)
        have bel13 : Below w.heap.size w v12 := (below_only bel11 ov12 lD (by omega))
        clear q0 q1 q2 q3 q4 q5 rP11 rB11 rC11 rD11 bel11 hv12 ov12 sv12
        simp only [Act.put]
        go_meet
        exact ⟨d, KD.out, hg, hne, rP13, rB13, rC13, rD13, bel13⟩
      · subst h4
        obtain ⟨x, d, hc, kd, he, hg, hne⟩ := (bump_counts KC.out).ex
        have HC := Lib.hid hc; have KD := Lib.hid kd; have HE := Lib.hid he
        have HA : Hid (IntKind.u32.wrap ((x : Int) + 1) = ((x : Int) + 1) % 4294967296) := Lib.hid (by simp [IntKind.wrap, IntKind.signed, IntKind.bits])
        have h36 : (n : Int) % 9 = 4 := by have := HT.out; rwa [Int.tmod_eq_emod_of_nonneg (by omega)] at this
        clear hc kd he HR HT
        go_wp2_with (first
          | ((with_reducible refine at_slot 71 ?_); (refine arm_want (.int .u32 (x : Int)) 71 rfl (by kernel_rfl) (run_op_load1 _ _ rfl (.int .u32) (by kernel_rfl) rfl ⟨D, 101, none⟩ rfl (.int .u32 (x : Int)) (rD11.cell HC.out)) ?_))
          | ((with_reducible refine at_slot 72 ?_); (refine arm_want (.int .u32 (((x : Int) + 1) % 4294967296)) 72 rfl (by kernel_rfl) (run_op_addK _ _ _ _ rfl .u32 (x : Int) 1 _ rfl rfl HA.out _) ?_))
          | ((with_reducible refine arm_store1 (o := ⟨none, _, _, _, _, _⟩) rfl _ _ _ rfl D 101 rfl .u32 (((x : Int) + 1) % 4294967296) rfl (by kernel_rfl) _ _ (rD11) (by rw [scs_len KC.out]; decide) ?_); intro v12 hv12 ov12 sv12))
        have q0 := sv12.out
        have q1 := rP11.lt
        have q2 := rB11.lt
        have q3 := rC11.lt
        have q4 := rD11.lt
        have q5 := bel11.size
        have rP13 : Row v12 P 35 (scs p) := (rP11.only ov12 nPD)
        have rB13 : Row v12 B 57 (gcs b) := (rB11.only ov12 nBD)
        have rC13 : Row v12 C 35 (scs c) := (rC11.only ov12 nCD)
        have rD13 : Row v12 D 35 (scs d) := (hv12.congr HE.out.symm)
        have bel13 : Below w.heap.size w v12 := (below_only bel11 ov12 lD (by omega))
        clear q0 q1 q2 q3 q4 q5 rP11 rB11 rC11 rD11 bel11 hv12 ov12 sv12
        simp only [Act.put]
        go_meet
        exact ⟨d, KD.out, hg, hne, rP13, rB13, rC13, rD13, bel13⟩
      · subst h5
        obtain ⟨x, d, hc, kd, he, hg, hne⟩ := (bump_seed KC.out).ex
        have HC := Lib.hid hc; have KD := Lib.hid kd; have HE := Lib.hid he
        have HA : Hid (IntKind.u8.wrap ((x : Int) + 1) = ((x : Int) + 1) % 256) := Lib.hid (by simp [IntKind.wrap, IntKind.signed, IntKind.bits])
        have h36 : (n : Int) % 9 = 5 := by have := HT.out; rwa [Int.tmod_eq_emod_of_nonneg (by omega)] at this
        clear hc kd he HR HT
        go_wp2_with (first
          | ((with_reducible refine at_slot 83 ?_); (refine arm_want (.int .u8 (x : Int)) 83 rfl (by kernel_rfl) (run_op_load1 _ _ rfl (.int .u8) (by kernel_rfl) rfl ⟨D, 140, none⟩ rfl (.int .u8 (x : Int)) (rD11.cell HC.out)) ?_))
          | ((with_reducible refine at_slot 84 ?_); (refine arm_want (.int .u8 (((x : Int) + 1) % 256)) 84 rfl (by kernel_rfl) (run_op_addK _ _ _ _ rfl .u8 (x : Int) 1 _ rfl rfl HA.out _) ?_))
          | ((with_reducible refine arm_store1 (o := ⟨none, _, _, _, _, _⟩) rfl _ _ _ rfl D 140 rfl .u8 (((x : Int) + 1) % 256) rfl (by kernel_rfl) _ _ (rD11) (by rw [scs_len KC.out]; decide) ?_); intro v12 hv12 ov12 sv12))
        have q0 := sv12.out
        have q1 := rP11.lt
        have q2 := rB11.lt
        have q3 := rC11.lt
        have q4 := rD11.lt
        have q5 := bel11.size
        have rP13 : Row v12 P 35 (scs p) := (rP11.only ov12 nPD)
        have rB13 : Row v12 B 57 (gcs b) := (rB11.only ov12 nBD)
        have rC13 : Row v12 C 35 (scs c) := (rC11.only ov12 nCD)
        have rD13 : Row v12 D 35 (scs d) := (hv12.congr HE.out.symm)
        have bel13 : Below w.heap.size w v12 := (below_only bel11 ov12 lD (by omega))
        clear q0 q1 q2 q3 q4 q5 rP11 rB11 rC11 rD11 bel11 hv12 ov12 sv12
        simp only [Act.put]
        go_meet
        exact ⟨d, KD.out, hg, hne, rP13, rB13, rC13, rD13, bel13⟩
      · subst h6
        obtain ⟨x, d, hc, kd, he, hg, hne⟩ := (bump_lock KC.out).ex
        have HC := Lib.hid hc; have KD := Lib.hid kd; have HE := Lib.hid he
        have HA : Hid (IntKind.u8.wrap ((x : Int) + 1) = ((x : Int) + 1) % 256) := Lib.hid (by simp [IntKind.wrap, IntKind.signed, IntKind.bits])
        have h36 : (n : Int) % 9 = 6 := by have := HT.out; rwa [Int.tmod_eq_emod_of_nonneg (by omega)] at this
        clear hc kd he HR HT
        go_wp2_with (first
          | ((with_reducible refine at_slot 95 ?_); (refine arm_want (.int .u8 (x : Int)) 95 rfl (by kernel_rfl) (run_op_load1 _ _ rfl (.int .u8) (by kernel_rfl) rfl ⟨D, 361, none⟩ rfl (.int .u8 (x : Int)) (rD11.cell HC.out)) ?_))
          | ((with_reducible refine at_slot 96 ?_); (refine arm_want (.int .u8 (((x : Int) + 1) % 256)) 96 rfl (by kernel_rfl) (run_op_addK _ _ _ _ rfl .u8 (x : Int) 1 _ rfl rfl HA.out _) ?_))
          | ((with_reducible refine arm_store1 (o := ⟨none, _, _, _, _, _⟩) rfl _ _ _ rfl D 361 rfl .u8 (((x : Int) + 1) % 256) rfl (by kernel_rfl) _ _ (rD11) (by rw [scs_len KC.out]; decide) ?_); intro v12 hv12 ov12 sv12))
        have q0 := sv12.out
        have q1 := rP11.lt
        have q2 := rB11.lt
        have q3 := rC11.lt
        have q4 := rD11.lt
        have q5 := bel11.size
        have rP13 : Row v12 P 35 (scs p) := (rP11.only ov12 nPD)
        have rB13 : Row v12 B 57 (gcs b) := (rB11.only ov12 nBD)
        have rC13 : Row v12 C 35 (scs c) := (rC11.only ov12 nCD)
        have rD13 : Row v12 D 35 (scs d) := (hv12.congr HE.out.symm)
        have bel13 : Below w.heap.size w v12 := (below_only bel11 ov12 lD (by omega))
        clear q0 q1 q2 q3 q4 q5 rP11 rB11 rC11 rD11 bel11 hv12 ov12 sv12
        simp only [Act.put]
        go_meet
        exact ⟨d, KD.out, hg, hne, rP13, rB13, rC13, rD13, bel13⟩
      · subst h7
        obtain ⟨x, d, hc, kd, he, hg, hne⟩ := (bump_nlen KC.out).ex
        have HC := Lib.hid hc; have KD := Lib.hid kd; have HE := Lib.hid he
        have HA : Hid (IntKind.u32.wrap ((x : Int) + 1) = ((x : Int) + 1) % 4294967296) := Lib.hid (by simp [IntKind.wrap, IntKind.signed, IntKind.bits])
        have h36 : (n : Int) % 9 = 7 := by have := HT.out; rwa [Int.tmod_eq_emod_of_nonneg (by omega)] at this
        clear hc kd he HR HT
        go_wp2_with (first
          | ((with_reducible refine at_slot 106 ?_); (refine arm_want (.int .u32 (x : Int)) 106 rfl (by kernel_rfl) (run_op_load1 _ _ rfl (.int .u32) (by kernel_rfl) rfl ⟨D, 362, none⟩ rfl (.int .u32 (x : Int)) (rD11.cell HC.out)) ?_))
          | ((with_reducible refine at_slot 107 ?_); (refine arm_want (.int .u32 (((x : Int) + 1) % 4294967296)) 107 rfl (by kernel_rfl) (run_op_addK _ _ _ _ rfl .u32 (x : Int) 1 _ rfl rfl HA.out _) ?_))
          | ((with_reducible refine arm_store1 (o := ⟨none, _, _, _, _, _⟩) rfl _ _ _ rfl D 362 rfl .u32 (((x : Int) + 1) % 4294967296) rfl (by kernel_rfl) _ _ (rD11) (by rw [scs_len KC.out]; decide) ?_); intro v12 hv12 ov12 sv12))
        have q0 := sv12.out
        have q1 := rP11.lt
        have q2 := rB11.lt
        have q3 := rC11.lt
        have q4 := rD11.lt
        have q5 := bel11.size
        have rP13 : Row v12 P 35 (scs p) := (rP11.only ov12 nPD)
        have rB13 : Row v12 B 57 (gcs b) := (rB11.only ov12 nBD)
        have rC13 : Row v12 C 35 (scs c) := (rC11.only ov12 nCD)
        have rD13 : Row v12 D 35 (scs d) := (hv12.congr HE.out.symm)
        have bel13 : Below w.heap.size w v12 := (below_only bel11 ov12 lD (by omega))
        clear q0 q1 q2 q3 q4 q5 rP11 rB11 rC11 rD11 bel11 hv12 ov12 sv12
        simp only [Act.put]
        go_meet
        exact ⟨d, KD.out, hg, hne, rP13, rB13, rC13, rD13, bel13⟩
      · subst h8
        obtain ⟨x, d, hc, kd, he, hg, hne⟩ := (bump_last KC.out).ex
        have HC := Lib.hid hc; have KD := Lib.hid kd; have HE := Lib.hid he
        have HA : Hid (IntKind.u32.wrap ((x : Int) + 1) = ((x : Int) + 1) % 4294967296) := Lib.hid (by simp [IntKind.wrap, IntKind.signed, IntKind.bits])
        have h36 : (n : Int) % 9 = 8 := by have := HT.out; rwa [Int.tmod_eq_emod_of_nonneg (by omega)] at this
        clear hc kd he HR HT
        go_wp2_with (first
          | ((with_reducible refine at_slot 116 ?_); (refine arm_want (.int .u32 (x : Int)) 116 rfl (by kernel_rfl) (run_op_load1 _ _ rfl (.int .u32) (by kernel_rfl) rfl ⟨D, 100, none⟩ rfl (.int .u32 (x : Int)) (rD11.cell HC.out)) ?_))
          | ((with_reducible refine at_slot 117 ?_); (refine arm_want (.int .u32 (((x : Int) + 1) % 4294967296)) 117 rfl (by kernel_rfl) (run_op_addK _ _ _ _ rfl .u32 (x : Int) 1 _ rfl rfl HA.out _) ?_))
          | ((with_reducible refine arm_store1 (o := ⟨none, _, _, _, _, _⟩) rfl _ _ _ rfl D 100 rfl .u32 (((x : Int) + 1) % 4294967296) rfl (by kernel_rfl) _ _ (rD11) (by rw [scs_len KC.out]; decide) ?_); intro v12 hv12 ov12 sv12))
        have q0 := sv12.out
        have q1 := rP11.lt
        have q2 := rB11.lt
        have q3 := rC11.lt
        have q4 := rD11.lt
        have q5 := bel11.size
        have rP13 : Row v12 P 35 (scs p) := (rP11.only ov12 nPD)
        have rB13 : Row v12 B 57 (gcs b) := (rB11.only ov12 nBD)
        have rC13 : Row v12 C 35 (scs c) := (rC11.only ov12 nCD)
        have rD13 : Row v12 D 35 (scs d) := (hv12.congr HE.out.symm)
        have bel13 : Below w.heap.size w v12 := (below_only bel11 ov12 lD (by omega))
        clear q0 q1 q2 q3 q4 q5 rP11 rB11 rC11 rD11 bel11 hv12 ov12 sv12
        simp only [Act.put]
        go_meet
        exact ⟨d, KD.out, hg, hne, rP13, rB13, rC13, rD13, bel13⟩
    case rest =>
      clear rP11 rB11 rC11 rD11 bel11
      obtain ⟨d, kd, hg, hne, rP301, rB301, rC301, rD301, bel301⟩ := hcut
      have KD := Lib.hid kd
      replace HD := Lib.hid (HD.out d kd hg hne)
      clear kd hg hne HR HT
      go_wp2_with (first
        | ((with_reducible refine at_slot 121 ?_); (refine arm_load (o := ⟨some 121, _, _, _, _, _⟩) rfl _ _ rfl P 0 rfl (scs p) ((show Has (scs p) 0 (scs p) from Has.refl _).range (rP301)) (sz_sta OK.out) ?_))
        | ((with_reducible refine at_slot 122 ?_); (refine arm_load (o := ⟨some 122, _, _, _, _, _⟩) rfl _ _ rfl C 0 rfl (scs c) ((show Has (scs c) 0 (scs c) from Has.refl _).range (rC301)) (sz_sta KC.out) ?_)))
      refine (HG.out _ (HKW.out _ bel301)).mono ?_
      rintro e y302 ⟨rfl, hB⟩
      have rP302 : Row y302 P 35 (scs p) := rP301.old hB
      have rB302 : Row y302 B 57 (gcs b) := rB301.old hB
      have rC302 : Row y302 C 35 (scs c) := rC301.old hB
      have rD302 : Row y302 D 35 (scs d) := rD301.old hB
      have bel302 : Below w.heap.size w y302 := below_step bel301 bel301.size hB
      clear hB rP301 rB301 rC301 rD301 bel301
      go_wp2_with (first
        | ((with_reducible refine at_slot 126 ?_); (refine arm_want (.agg (scs p).toArray) 126 rfl (by kernel_rfl) (run_op_load _ _ rfl P 0 rfl (scs p) ((show Has (scs p) 0 (scs p) from Has.refl _).range (rP302)) ((sz_sta OK.out))) ?_))
        | ((with_reducible refine at_slot 127 ?_); (refine arm_want (.agg (scs d).toArray) 127 rfl (by kernel_rfl) (run_op_load _ _ rfl D 0 rfl (scs d) ((show Has (scs d) 0 (scs d) from Has.refl _).range (rD302)) ((sz_sta KD.out))) ?_)))
      refine (HD.out _ (HKW.out _ bel302)).mono ?_
      rintro e y303 ⟨rfl, hB⟩
      have rP303 : Row y303 P 35 (scs p) := rP302.old hB
      have rB303 : Row y303 B 57 (gcs b) := rB302.old hB
      have rC303 : Row y303 C 35 (scs c) := rC302.old hB
      have rD303 : Row y303 D 35 (scs d) := rD302.old hB
      have bel303 : Below w.heap.size w y303 := below_step bel302 bel302.size hB
      clear hB rP302 rB302 rC302 rD302 bel302
      go_wp2_with fail
      go_ret
      exact ⟨rfl, bel303⟩
  · have hz1 : (z == 0) = false := beq_eq_false_iff_ne.2 hz
    have hz2 : (z != 0) = true := bne_iff_ne.2 hz
    replace HB := Lib.hid (HB.out hz)
    clear HG HD
    go_wp2_with (first
      | ((with_reducible refine at_slot 7 ?_); (refine arm_alloc (o := ⟨some 7, _, _, _, _, _⟩) rfl _ rfl (scs zs) z_sta ?_); intro C v7 Ce hv7 nv7)
      | ((with_reducible refine arm_store (o := ⟨none, _, _, _, _, _⟩) rfl _ _ _ rfl C 0 rfl (scs c) rfl _ _ (hv7) (fitS KC.out) (scs_one _) (sz_sta KC.out) ?_); intro v8 hv8 ov8 sv8)
      | ((with_reducible refine at_slot 23 ?_); (refine arm_load (o := ⟨some 23, _, _, _, _, _⟩) rfl _ _ rfl P 0 rfl (scs p) ((show Has (scs p) 0 (scs p) from Has.refl _).range (((rP6.old nv7.below).only ov8 (by have := rP6.lt; have := Ce.out; have := nv7.size; have := sv8.out; omega)))) (sz_sta OK.out) ?_))
      | ((with_reducible refine at_slot 25 ?_); (refine arm_want (num32 b.slot) 25 rfl (by kernel_rfl) (run_op_load1 _ _ rfl (.int .u32) (by kernel_rfl) rfl ⟨B, 0, none⟩ rfl (num32 b.slot) (((rB6.old nv7.below).only ov8 (by have := rB6.lt; have := Ce.out; have := nv7.size; have := sv8.out; omega)).cell (show Has (gcs b) 0 [num32 b.slot] from g0 b).get)) ?_))
      | ((with_reducible refine at_slot 27 ?_); (refine arm_load (o := ⟨some 27, _, _, _, _, _⟩) rfl _ _ rfl B 1 rfl (u8s b.led) ((show Has (gcs b) 1 (u8s b.led) from g1 b).range (((rB6.old nv7.below).only ov8 (by have := rB6.lt; have := Ce.out; have := nv7.size; have := sv8.out; omega)))) (szH KB.out.led) ?_))
      | ((with_reducible refine at_slot 29 ?_); (refine arm_load (o := ⟨some 29, _, _, _, _, _⟩) rfl _ _ rfl B 33 rfl (u8s b.draw) ((show Has (gcs b) 33 (u8s b.draw) from g33 KB.out).range (((rB6.old nv7.below).only ov8 (by have := rB6.lt; have := Ce.out; have := nv7.size; have := sv8.out; omega)))) (szH KB.out.draw) ?_))
      | ((with_reducible refine at_slot 30 ?_); (refine arm_build (o := ⟨some 30, _, _, _, _, _⟩) rfl _ _ rfl (scs (ofGb b)) (by simp only [List.map_toArray, List.map_cons, List.map_nil]; exact BO.out) ?_)))
    have q0 := Ce.out
    have q1 := nv7.size
    have q2 := sv8.out
    have q3 := rP6.lt
    have q4 := rB6.lt
    have q5 := bel6.size
    have lC : w.heap.size ≤ C := by omega
    have nPC : P ≠ C := by omega
    have nCP : C ≠ P := by omega
    have nBC : B ≠ C := by omega
    have nCB : C ≠ B := by omega
    have rP9 : Row v8 P 35 (scs p) := ((rP6.old nv7.below).only ov8 nPC)
    have rB9 : Row v8 B 57 (gcs b) := ((rB6.old nv7.below).only ov8 nBC)
    have rC9 : Row v8 C 35 (scs c) := (hv8.congr (allS KC.out))
    have bel9 : Below w.heap.size w v8 := (below_only (below_step bel6 (by omega) nv7.below) ov8 lC (by omega))
    clear q0 q1 q2 q3 q4 q5 rP6 rB6 bel6 Ce hv7 nv7 hv8 ov8 sv8
    refine (HB.out _ (HKW.out _ bel9)).mono ?_
    rintro e y10 ⟨rfl, hB⟩
    have rP10 : Row y10 P 35 (scs p) := rP9.old hB
    have rB10 : Row y10 B 57 (gcs b) := rB9.old hB
    have rC10 : Row y10 C 35 (scs c) := rC9.old hB
    have bel10 : Below w.heap.size w y10 := below_step bel9 bel9.size hB
    clear hB rP9 rB9 rC9 bel9
    go_wp2_with (first
      | ((with_reducible refine at_slot 33 ?_); (refine arm_want (.bool true) 33 rfl (by kernel_rfl) (cmp_eql _ _ .i64 (by kernel_rfl) _ _ rfl .i64 z z rfl rfl true (decide_eq_true rfl) _) ?_)))
    go_ret
    exact ⟨rfl, bel10⟩
theorem linkOne_any (p : Sta) (b : Gb) (n : Nat) (w : World) (ok : p.Ok) (kb : b.Ok) (hn : n < 256) (hk : w.rangeAt 0 0 (u32s ks)) :
    Calls Tryd.prog 4 #[.agg (scs p).toArray, .agg (gcs b).toArray, .int .u8 (n : Int)] w fun e w' => e = .returned (.bool true) ∧ Below w.heap.size w w' := by
  by_cases hr : SRt p
  · exact linkOne_right p b n w ok kb hn hk hr
  · exact linkOne_not p b n w ok kb hn hk hr
end Go.Proofs.YtphbpndjebfacaaDoor.Lk
