/-
  The contracts of package state's Genesis, Hash and Read, of the document's Genesis, and of the statements' own, over this seat's translation.
-/
import Derived.Test.YtffpifljeeikfaaGreatDoorStaMade
import Derived.Test.YtffpifljeeikfaaGreatDoorStaLeaf
import Derived.Test.YtffpifljeeikfaaGreatDoorStaRead
import Derived.Test.YtffpifljeeikfaaGreatDoorEpoAll
import Derived.Test.YtffpifljeeikfaaGreatDoorTagOne
namespace Go.Proofs.YtffpifljeeikfaaGreatDoor.Sa
open Go.ChangeShapes Go.WideShapes Go.ChangeAt Go.RowKit Go.Proofs.YtffpifljeeikfaaGreatDoor.Mem Go.Proofs.YtffpifljeeikfaaGreatDoor.Bt Go.Proofs.YtffpifljeeikfaaGreatDoor.Wi Go.Proofs.YtffpifljeeikfaaGreatDoor.Tg Go.Proofs.YtffpifljeeikfaaGreatDoor.Sha
open Go.Proofs.YtffpifljeeikfaaGreatDoor.Ep (H32 Dat zh zh_ok num32 dcs dcs_len dcs_one zd zd_ok Has h_len one_app one_num szH zH fitH allH tagD_lt)
set_option linter.unusedVariables false
set_option linter.unusedSimpArgs false

theorem fitS {s : Sta} (k : s.Ok) : 0 + (scs s).length ≤ (scs zs).length := by rw [scs_len k, scs_len zs_ok]; omega
theorem allS {s : Sta} (k : s.Ok) : lay (scs zs) 0 (scs s) = scs s := lay_all _ _ (by rw [scs_len k, scs_len zs_ok])
set_option maxHeartbeats 1000000 in
set_option maxRecDepth 100000 in
theorem sgenesis_any (x : List Nat) (w : World) (k : H32 x) :
    Calls Tryz.prog 15 #[.agg (u8s x).toArray] w fun e w' => e = .returned (.agg (scs (genS x)).toArray) ∧ Below w.heap.size w w' := by
  have KD := Lib.hid k
  have GK := Lib.hid (gen_ok k)
  have B1 := Lib.hid (built_gen k)
  have CE := Lib.hid (fun w0 => Ep.first_any x w0 k)
  clear k
  obtain ⟨d, hd⟩ : ∃ d, d = Ep.pcs ⟨x, zh, zh, zh, 1⟩ ⟨x, zh, zh, zh, 1⟩ := ⟨_, rfl⟩
  rw [← hd] at B1 CE
  obtain ⟨g, hg⟩ : ∃ g, g = genS x := ⟨_, rfl⟩
  rw [← hg] at B1 GK ⊢
  clear hd hg
  go_enter Tryz.func15, Tryz.ntmps15
  go_wp2_with (first
    | ((with_reducible refine at_slot 1 ?_); (refine arm_box (o := ⟨some 1, _, _, _, _, _⟩) rfl _ _ rfl (u8s x) rfl ?_); intro X w1 Xe hw1 nw1)
    | ((with_reducible refine at_slot 2 ?_); (refine arm_alloc (o := ⟨some 2, _, _, _, _, _⟩) rfl _ rfl (scs zs) z_sta ?_); intro R w2 Re hw2 nw2))
  have e1 := Xe.out; have e2 := Re.out; have z1 := nw1.size; have z2 := nw2.size
  have HX : Row w2 X 23 (u8s x) := hw1.old nw2.below
  have bel : Below w.heap.size w w2 := below_step nw1.below (by omega) nw2.below
  have hXR : X ≠ R := by omega
  have hwR : w.heap.size ≤ R := by omega
  clear e1 e2 z1 z2 hw1 nw1 nw2 Xe Re
  refine wp_region_held (S := fun w' => Row w' X 23 (u8s x)) (by kernel_rfl) ?_
  change wpAnyH _ _ _ _ _ _ _ _ w2.drew
  have hS : Row w2.drew X 23 (u8s x) := HX
  have hR : Row w2.drew R 35 (scs zs) := hw2
  have hb : Below w.heap.size w w2.drew := bel.trans ((Below.refl _ _).drew)
  generalize w2.drew = wz at hS hR hb ⊢
  clear HX hw2 bel
  refine h_take 0 (.agg (u8s x).toArray) rfl 3 rfl (by kernel_rfl) (by kernel_rfl) (by kernel_rfl) (by kernel_rfl) (fun _ _ _ h => h) (fun w' hw => run_op_load _ _ rfl X 0 rfl (u8s x) ((Has.refl _).range hw) (szH KD.out)) hS ?_
  simp only [Act.put, List.setIfInBounds_toArray, List.set_cons_zero, List.set_cons_succ]
  refine h_take 2 (.agg (u8s x).toArray) rfl 5 rfl (by kernel_rfl) (by kernel_rfl) (by kernel_rfl) (by kernel_rfl) (fun _ _ _ h => h) (fun w' hw => run_op_load _ _ rfl X 0 rfl (u8s x) ((Has.refl _).range hw) (szH KD.out)) hS ?_
  simp only [Act.put, List.setIfInBounds_toArray, List.set_cons_zero, List.set_cons_succ]
  refine h_one (i := 1) (by kernel_rfl) (o_call rfl 4 rfl (by kernel_rfl) (run_op_call 27 _ _ rfl #[] (by simp only [List.map_toArray, List.map_nil]) Tryz.func27 (by kernel_rfl) (by kernel_rfl) _) (Wn.wgenesis_any wz) ?_)
  rintro e y1 ⟨rfl, h1⟩
  have hS1 := hS.old h1
  have hR1 := hR.old h1
  have hb1 : Below w.heap.size w y1 := below_step hb hb.size h1
  refine ⟨_, rfl, hS1, ?_⟩
  clear hS hR hb h1
  simp only [Act.put, List.setIfInBounds_toArray, List.set_cons_zero, List.set_cons_succ]
  refine h_one (i := 3) (by kernel_rfl) (o_call rfl 6 rfl (by kernel_rfl) (run_op_call 28 _ _ rfl #[.agg (u8s x).toArray] (by simp only [List.map_toArray, List.map_cons, List.map_nil]; rfl) Tryz.func28 (by kernel_rfl) (by kernel_rfl) _) (CE.out y1) ?_)
  rintro e y2 ⟨rfl, h2⟩
  have hS2 := hS1.old h2
  have hR2 := hR1.old h2
  have hb2 : Below w.heap.size w y2 := below_step hb1 hb1.size h2
  refine ⟨_, rfl, hS2, ?_⟩
  clear hS1 hR1 hb1 h2
  simp only [Act.put, List.setIfInBounds_toArray, List.set_cons_zero, List.set_cons_succ]
  refine h_take 4 (.agg (scs g).toArray) rfl 7 rfl (by kernel_rfl) (by kernel_rfl) (by kernel_rfl) (by kernel_rfl) (fun _ _ _ h => h) (fun w' hw => run_op_build _ _ rfl (scs g) (by simp only [List.map_toArray, List.map_cons, List.map_nil]; exact B1.out) w') hS2 ?_
  simp only [Act.put, List.setIfInBounds_toArray, List.set_cons_zero, List.set_cons_succ]
  refine h_one (i := 5) (by kernel_rfl) (o_skip rfl rfl (by kernel_rfl) (run_op_store _ _ _ rfl R 0 rfl (scs g) rfl _ _ hR2 (fitS GK.out) (scs_one _) (sz_sta GK.out)) ?_)
  have hR3 : Row (y2.setRow R (lay (scs zs) 0 (scs g)).toArray) R 35 (lay (scs zs) 0 (scs g)) := row_setRow hR2 _
  have hO3 : Only R y2 (y2.setRow R (lay (scs zs) 0 (scs g)).toArray) := Only.setRow _ _ _
  generalize y2.setRow R (lay (scs zs) 0 (scs g)).toArray = y3 at hR3 hO3 ⊢
  have hb3 : Below w.heap.size w y3 := below_only hb2 hO3 hwR hb2.size
  refine ⟨hS2.only hO3 hXR, ?_⟩
  refine wpAnyH_done (by kernel_rfl) ?_ _
  clear hS2 hR2 hO3 hb2
  go_wp2_with fail
  exact bodyPost_ret (v := .agg (scs g).toArray) (result_row (p := 2) (ty := 35) (u := 35) (by kernel_rfl) _ _ R (scs g) rfl (hR3.congr (allS GK.out)) (sz_sta GK.out)) rfl ⟨rfl, hb3⟩
/-- The name 'state'. -/
def nameS : ByteArray := ⟨#[115, 116, 97, 116, 101]⟩
/-- A state's digest. -/
def digS (s : Sta) : List Nat := tagD nameS [staB s]
theorem digS_ok (s : Sta) : H32 (digS s) := ⟨tagD_len _ _, tagD_lt _ _⟩
set_option maxHeartbeats 1000000 in
set_option maxRecDepth 100000 in
theorem shash_any (s : Sta) (w : World) (ok : s.Ok) (hk : w.rangeAt 0 0 (u32s ks)) :
    Calls Tryz.prog 29 #[.agg (scs s).toArray] w fun e w' => e = .returned (.agg (u8s (digS s)).toArray) ∧ Below w.heap.size w w' := by
  have OK := Lib.hid ok; have HK := Lib.hid hk
  have hk1 : 0 < w.heap.size := range_lt hk (by simp [u32s, ks])
  have kd := digS_ok s
  obtain ⟨dd, hdd⟩ : ∃ dd, dd = digS s := ⟨_, rfl⟩
  rw [← hdd] at kd ⊢
  have KD := Lib.hid kd
  have HDD : Hid (tagD nameS [staB s] = dd) := Lib.hid hdd.symm
  clear hdd kd
  have HB := Lib.hid (staB_len ok)
  have HLT := Lib.hid (bP_lt ok 22)
  clear ok hk
  go_enter Tryz.func29, Tryz.ntmps29
  go_wp2_with (first
    | ((with_reducible refine at_slot 1 ?_); (refine arm_box (o := ⟨some 1, _, _, _, _, _⟩) rfl _ _ rfl (scs s) rfl ?_); intro S w1 Se hw1 nw1)
    | ((with_reducible refine at_slot 2 ?_); (refine arm_alloc (o := ⟨some 2, _, _, _, _, _⟩) rfl _ rfl (u8s zh) zH ?_); intro R w2 Re hw2 nw2)
    | ((with_reducible refine at_slot 3 ?_); (refine arm_load (o := ⟨some 3, _, _, _, _, _⟩) rfl _ _ rfl S 0 rfl (scs s) ((Has.refl _).range (hw1.old nw2.below)) (sz_sta OK.out) ?_)))
  have e1 := Se.out; have e2 := Re.out; have z1 := nw1.size; have z2 := nw2.size
  have bel : Below w.heap.size w w2 := below_step nw1.below (by omega) nw2.below
  refine (bytes_any s w2 OK.out).mono ?_
  rintro e w3 ⟨⟨q, c, rfl, hO⟩, hB3⟩
  have HO := Lib.hid hO
  have bel3 : Below w.heap.size w w3 := below_step bel bel.size hB3
  have hr3 := hw2.old hB3
  have hwR : w.heap.size ≤ R := by omega
  clear e1 e2 z1 z2 hw1 hw2 nw1 nw2 Se Re bel hO hB3
  go_wp2_with (first
    | ((with_reducible refine at_slot 5 ?_); (refine arm_one (o := ⟨some 5, _, _, _, _, _⟩) rfl _ rfl q (staB s).length c rfl ?_); intro b4 w4 hb4 hR4 hN4))
  have bel4 : Below w.heap.size w w4 := below_step bel3 bel3.size hN4.below
  have hP : Parts w4 (some ⟨b4, 0, none⟩) [staB s] := parts_one hR4 ((HO.out.below hN4.below).came HLT.out)
  have hk4 : w4.rangeAt 0 0 (u32s ks) := range_block HK.out (bel4.block _ hk1)
  have hr4 := hr3.old hN4.below
  refine (tagOf_any nameS [staB s] (some ⟨b4, 0, none⟩) 1 w4 (by simp only [total, HB.out]; omega) hP hk4).mono ?_
  rintro e w5 ⟨rfl, hB5⟩
  have bel5 : Below w.heap.size w w5 := below_step bel4 bel4.size hB5
  have hr5 := hr4.old hB5
  rw [HDD.out]
  clear hP hk4 hr4 hr3 bel3 bel4 hb4 hR4 hN4 hB5
  go_wp2_with (first
    | ((with_reducible refine arm_store (o := ⟨none, _, _, _, _, _⟩) rfl _ _ _ rfl R 0 rfl (u8s dd) rfl _ _ hr5 (fitH KD.out) (u8s_one _) (szH KD.out) ?_); intro w6 hw6 ow6 sw6))
  exact bodyPost_ret (v := .agg (u8s dd).toArray) (result_row (p := 2) (ty := 23) (u := 23) (by kernel_rfl) _ _ R (u8s dd) rfl (hw6.congr (allH KD.out)) (szH KD.out)) rfl ⟨rfl, below_only bel5 ow6 hwR bel5.size⟩
/-- What is read of bytes: the state, and what goes wrong. -/
def rdS (b : List Nat) : Sta × Nat := if endR (qs b 22) ≠ 0 then (zs, endR (qs b 22)) else if SRt (staR b) then (staR b, 0) else (zs, 2)
theorem rdS_ok {b : List Nat} (h : AllLt 256 b) : (rdS b).1.Ok := by
  unfold rdS
  split
  · exact zs_ok
  · split
    · exact staR_ok h
    · exact zs_ok
structure ReadPost (w : World) (b : List Nat) (e : Ending) (w' : World) : Prop where
  ret : e = .returned (.tuple #[.agg (scs (rdS b).1).toArray, .int .i64 ((rdS b).2 : Int)])
  bel : Below w.heap.size w w'
end Go.Proofs.YtffpifljeeikfaaGreatDoor.Sa
