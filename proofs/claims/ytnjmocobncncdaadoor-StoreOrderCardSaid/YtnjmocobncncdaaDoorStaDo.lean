/-
  The contracts of package state's Genesis, Hash and Read, of the document's Genesis, and of the statements' own, over this seat's translation.
-/
import Derived.Test.YtnjmocobncncdaaDoorStaMade
import Derived.Test.YtnjmocobncncdaaDoorStaLeaf
import Derived.Test.YtnjmocobncncdaaDoorStaRead
import Derived.Test.YtnjmocobncncdaaDoorEpoAll
import Derived.Test.YtnjmocobncncdaaDoorTagOne
namespace Go.Proofs.YtnjmocobncncdaaDoor.Sa
open Go.ChangeShapes Go.WideShapes Go.ChangeAt Go.RowKit Go.Proofs.YtnjmocobncncdaaDoor.Mem Go.Proofs.YtnjmocobncncdaaDoor.Bt Go.Proofs.YtnjmocobncncdaaDoor.Wi Go.Proofs.YtnjmocobncncdaaDoor.Tg Go.Proofs.YtnjmocobncncdaaDoor.Sha
open Go.Proofs.YtnjmocobncncdaaDoor.Ep (H32 Dat zh zh_ok num32 dcs dcs_len dcs_one zd zd_ok Has h_len one_app one_num szH zH fitH allH tagD_lt)
set_option linter.unusedVariables false
set_option linter.unusedSimpArgs false

theorem fitS {s : Sta} (k : s.Ok) : 0 + (scs s).length ≤ (scs zs).length := by rw [scs_len k, scs_len zs_ok]; omega
theorem allS {s : Sta} (k : s.Ok) : lay (scs zs) 0 (scs s) = scs s := lay_all _ _ (by rw [scs_len k, scs_len zs_ok])
/-- The name 'state'. -/
def nameS : ByteArray := ⟨#[115, 116, 97, 116, 101]⟩
/-- A state's digest. -/
def digS (s : Sta) : List Nat := tagD nameS [staB s]
theorem digS_ok (s : Sta) : H32 (digS s) := ⟨tagD_len _ _, tagD_lt _ _⟩
set_option maxHeartbeats 1000000 in
set_option maxRecDepth 100000 in
theorem shash_any (s : Sta) (w : World) (ok : s.Ok) (hk : w.rangeAt 0 0 (u32s ks)) :
    Calls Tryd.prog 7 #[.agg (scs s).toArray] w fun e w' => e = .returned (.agg (u8s (digS s)).toArray) ∧ Below w.heap.size w w' := by
  have OK := Lib.hid ok; have HK := Lib.hid hk
  have hk1 : 0 < w.heap.size := range_lt hk (by simp [u32s, ks])
  have kd := digS_ok s
  obtain ⟨dd, hdd⟩ : ∃ dd, dd = digS s := ⟨_, rfl⟩
  rw [← hdd] at kd ⊢
  have KD := Lib.hid kd
  have HDD : Hid (tagD nameS [staB s] = dd) := Lib.hid hdd.symm
  clear hdd kd
  have HB := Lib.hid (staB_len ok)
  have HLT := Lib.hid (bP_lt ok 22)
  clear ok hk
  go_enter Tryd.func7, Tryd.ntmps7
  go_wp2_with (first
    | ((with_reducible refine at_slot 1 ?_); (refine arm_box (o := ⟨some 1, _, _, _, _, _⟩) rfl _ _ rfl (scs s) rfl ?_); intro S w1 Se hw1 nw1)
    | ((with_reducible refine at_slot 2 ?_); (refine arm_alloc (o := ⟨some 2, _, _, _, _, _⟩) rfl _ rfl (u8s zh) zH ?_); intro R w2 Re hw2 nw2)
    | ((with_reducible refine at_slot 3 ?_); (refine arm_load (o := ⟨some 3, _, _, _, _, _⟩) rfl _ _ rfl S 0 rfl (scs s) ((Has.refl _).range (hw1.old nw2.below)) (sz_sta OK.out) ?_)))
  have e1 := Se.out; have e2 := Re.out; have z1 := nw1.size; have z2 := nw2.size
  have bel : Below w.heap.size w w2 := below_step nw1.below (by omega) nw2.below
  refine (bytes_any s w2 OK.out).mono ?_
  rintro e w3 ⟨⟨q, c, rfl, hO⟩, hB3⟩
  have HO := Lib.hid hO
  have bel3 : Below w.heap.size w w3 := below_step bel bel.size hB3
  have hr3 := hw2.old hB3
  have hwR : w.heap.size ≤ R := by omega
  clear e1 e2 z1 z2 hw1 hw2 nw1 nw2 Se Re bel hO hB3
  go_wp2_with (first
    | ((with_reducible refine at_slot 5 ?_); (refine arm_one (o := ⟨some 5, _, _, _, _, _⟩) rfl _ rfl q (staB s).length c rfl ?_); intro b4 w4 hb4 hR4 hN4))
  have bel4 : Below w.heap.size w w4 := below_step bel3 bel3.size hN4.below
  have hP : Parts w4 (some ⟨b4, 0, none⟩) [staB s] := parts_one hR4 ((HO.out.below hN4.below).came HLT.out)
  have hk4 : w4.rangeAt 0 0 (u32s ks) := range_block HK.out (bel4.block _ hk1)
  have hr4 := hr3.old hN4.below
  refine (tagOf_any nameS [staB s] (some ⟨b4, 0, none⟩) 1 w4 (by simp only [total, HB.out]; omega) hP hk4).mono ?_
  rintro e w5 ⟨rfl, hB5⟩
  have bel5 : Below w.heap.size w w5 := below_step bel4 bel4.size hB5
  have hr5 := hr4.old hB5
  rw [HDD.out]
  clear hP hk4 hr4 hr3 bel3 bel4 hb4 hR4 hN4 hB5
  go_wp2_with (first
    | ((with_reducible refine arm_store (o := ⟨none, _, _, _, _, _⟩) rfl _ _ _ rfl R 0 rfl (u8s dd) rfl _ _ hr5 (fitH KD.out) (u8s_one _) (szH KD.out) ?_); intro w6 hw6 ow6 sw6))
  exact bodyPost_ret (v := .agg (u8s dd).toArray) (result_row (p := 2) (ty := 29) (u := 29) (by kernel_rfl) _ _ R (u8s dd) rfl (hw6.congr (allH KD.out)) (szH KD.out)) rfl ⟨rfl, below_only bel5 ow6 hwR bel5.size⟩
end Go.Proofs.YtnjmocobncncdaaDoor.Sa
