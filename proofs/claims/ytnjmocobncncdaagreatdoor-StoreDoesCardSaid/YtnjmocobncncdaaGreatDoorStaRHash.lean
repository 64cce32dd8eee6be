/-
  The contracts of the document's One of layer 3 and Hash of layer 9, over this seat's translation.
-/
import Derived.Test.YtnjmocobncncdaaGreatDoorStaRBytes
import Derived.Test.YtnjmocobncncdaaGreatDoorWireRefAll
import Derived.Test.YtnjmocobncncdaaGreatDoorTagAll
import Derived.Test.YtnjmocobncncdaaGreatDoorTagOne
namespace Go.Proofs.YtnjmocobncncdaaGreatDoor.Sa
open Go.ChangeShapes Go.WideShapes Go.ChangeAt Go.RowKit Go.Proofs.YtnjmocobncncdaaGreatDoor.Mem Go.Proofs.YtnjmocobncncdaaGreatDoor.Bt Go.Proofs.YtnjmocobncncdaaGreatDoor.Wi Go.Proofs.YtnjmocobncncdaaGreatDoor.Tg Go.Proofs.YtnjmocobncncdaaGreatDoor.Sha Go.Proofs.YtnjmocobncncdaaGreatDoor.Rg
open Go.Proofs.YtnjmocobncncdaaGreatDoor.Ep (H32 zh zh_ok Has szH zH fitH allH)
set_option linter.unusedVariables false
set_option linter.unusedSimpArgs false

theorem zA : Mem.Zero Tryz.prog 31 (u8s zh) := by unfold Mem.Zero; kernel_rfl
set_option maxRecDepth 100000 in
theorem szA {x : List Nat} (h : H32 x) : Sized Tryz.prog 31 (u8s x).length := by rw [u8s_length, h.len]; exact sz_arr
theorem tagD_ok (n : ByteArray) (l : List (List Nat)) : H32 (tagD n l) := ⟨tagD_len _ _, Ep.tagD_lt _ _⟩
set_option maxHeartbeats 1000000 in
set_option maxRecDepth 100000 in
theorem refOne_any (nm : ByteArray) (x : List Nat) (p : Option Addr) (cap : Nat) (w : World) (ht : x.length ≤ 700000) (hc : Came w p cap x) (hk : w.rangeAt 0 0 (u32s ks)) :
    Calls Tryz.prog 23 #[.string nm, .slice p x.length cap] w fun e w' => e = .returned (.agg (u8s (tagD nm [x])).toArray) ∧ Below w.heap.size w w' := by
  have HK := Lib.hid hk; have HC := Lib.hid hc; have HT := Lib.hid ht
  have hk1 : 0 < w.heap.size := range_lt hk (by simp [u32s, ks])
  have kd := tagD_ok nm [x]
  obtain ⟨dd, hdd⟩ : ∃ dd, dd = tagD nm [x] := ⟨_, rfl⟩
  rw [← hdd] at kd ⊢
  have KD := Lib.hid kd
  have HDD : Hid (tagD nm [x] = dd) := Lib.hid hdd.symm
  clear hdd kd hk hc ht
  go_enter Tryz.func23, Tryz.ntmps23
  go_wp2_with (first
    | ((with_reducible refine at_slot 4 ?_); (refine arm_alloc (o := ⟨some 4, _, _, _, _, _⟩) rfl _ rfl (u8s zh) zA ?_); intro R w2 Re hw2 nw2)
    | ((with_reducible refine at_slot 7 ?_); (refine arm_one (o := ⟨some 7, _, _, _, _, _⟩) rfl _ rfl p x.length cap rfl ?_); intro b4 w4 hb4 hR4 hN4))
  have e2 := Re.out; have z2 := nw2.size
  have bel2 : Below w.heap.size w w2 := nw2.below
  have bel4 : Below w.heap.size w w4 := below_step bel2 bel2.size hN4.below
  have hwR : w.heap.size ≤ R := by omega
  have hP : Parts w4 (some ⟨b4, 0, none⟩) [x] := parts_one hR4 (HC.out.below bel4)
  have hk4 : w4.rangeAt 0 0 (u32s ks) := range_block HK.out (bel4.block _ hk1)
  have hr4 := hw2.old hN4.below
  clear e2 z2 hw2 nw2 Re bel2
  refine (refTag_any nm [x] (some ⟨b4, 0, none⟩) 1 w4 (by have := HT.out; simp only [total]; omega) hP hk4).mono ?_
  rintro e w5 ⟨rfl, hB5⟩
  have bel5 : Below w.heap.size w w5 := below_step bel4 bel4.size hB5
  have hr5 := hr4.old hB5
  rw [HDD.out]
  clear hP hk4 hr4 bel4 hb4 hR4 hN4 hB5
  go_wp2_with (first
    | ((with_reducible refine arm_store (o := ⟨none, _, _, _, _, _⟩) rfl _ _ _ rfl R 0 rfl (u8s dd) rfl _ _ hr5 (fitH KD.out) (u8s_one _) (szA KD.out) ?_); intro w6 hw6 ow6 sw6))
  exact bodyPost_ret (v := .agg (u8s dd).toArray) (result_row (p := 4) (ty := 31) (u := 31) (by kernel_rfl) _ _ R (u8s dd) rfl (hw6.congr (allH KD.out)) (szA KD.out)) rfl ⟨rfl, below_only bel5 ow6 hwR bel5.size⟩
set_option maxHeartbeats 1000000 in
set_option maxRecDepth 100000 in
theorem rhash_any (s : Sta) (w : World) (ok : s.Ok) (hk : w.rangeAt 0 0 (u32s ks)) :
    Calls Tryz.prog 7 #[.agg (scs s).toArray] w fun e w' => e = .returned (.agg (u8s (digS s)).toArray) ∧ Below w.heap.size w w' := by
  have OK := Lib.hid ok; have HK := Lib.hid hk
  have hk1 : 0 < w.heap.size := range_lt hk (by simp [u32s, ks])
  have kd := digS_ok s
  have HB := Lib.hid (staB_len ok)
  have HLT := Lib.hid (bP_lt ok 22)
  have C1 := Lib.hid (fun (p : Option Addr) (cap : Nat) (w0 : World) (h : Came w0 p cap (staB s)) (h2 : w0.rangeAt 0 0 (u32s ks)) => refOne_any nameS (staB s) p cap w0 (by rw [HB.out]; omega) h h2)
  have hdl : tagD nameS [staB s] = digS s := rfl
  obtain ⟨dd, hdd⟩ : ∃ dd, dd = digS s := ⟨_, rfl⟩
  rw [hdl, ← hdd] at C1
  rw [← hdd] at kd ⊢
  have KD := Lib.hid kd
  have C2 := Lib.hid (fun w0 => rbytes_any s w0 ok)
  rw [show (396 : Nat) = (staB s).length from HB.out.symm] at C2
  clear hdd kd hdl
  clear ok hk
  go_enter Tryz.func7, Tryz.ntmps7
  go_wp2_with (first
    | ((with_reducible refine at_slot 1 ?_); (refine arm_box (o := ⟨some 1, _, _, _, _, _⟩) rfl _ _ rfl (scs s) rfl ?_); intro S w1 Se hw1 nw1)
    | ((with_reducible refine at_slot 2 ?_); (refine arm_alloc (o := ⟨some 2, _, _, _, _, _⟩) rfl _ rfl (u8s zh) zH ?_); intro R w2 Re hw2 nw2)
    | ((with_reducible refine at_slot 3 ?_); (refine arm_load (o := ⟨some 3, _, _, _, _, _⟩) rfl _ _ rfl S 0 rfl (scs s) ((Has.refl _).range (hw1.old nw2.below)) (sz_rsta OK.out) ?_)))
  have e1 := Se.out; have e2 := Re.out; have z1 := nw1.size; have z2 := nw2.size
  have bel : Below w.heap.size w w2 := below_step nw1.below (by omega) nw2.below
  refine (C2.out w2).mono ?_
  rintro e w3 ⟨⟨q, c, rfl, hO⟩, hB3⟩
  have bel3 : Below w.heap.size w w3 := below_step bel bel.size hB3
  have hr3 := hw2.old hB3
  have hwR : w.heap.size ≤ R := by omega
  have hC := hO.came HLT.out
  have hk3 : w3.rangeAt 0 0 (u32s ks) := range_block HK.out (bel3.block _ hk1)
  clear e1 e2 z1 z2 hw1 hw2 nw1 nw2 Se Re bel hO hB3
  go_wp2_with fail
  refine (C1.out q c w3 hC hk3).mono ?_
  rintro e w5 ⟨rfl, hB5⟩
  have bel5 : Below w.heap.size w w5 := below_step bel3 bel3.size hB5
  have hr5 := hr3.old hB5
  clear hr3 bel3 hB5 hC hk3
  go_wp2_with (first
    | ((with_reducible refine arm_store (o := ⟨none, _, _, _, _, _⟩) rfl _ _ _ rfl R 0 rfl (u8s dd) rfl _ _ hr5 (fitH KD.out) (u8s_one _) (szH KD.out) ?_); intro w6 hw6 ow6 sw6))
  exact bodyPost_ret (v := .agg (u8s dd).toArray) (result_row (p := 2) (ty := 32) (u := 32) (by kernel_rfl) _ _ R (u8s dd) rfl (hw6.congr (allH KD.out)) (szH KD.out)) rfl ⟨rfl, below_only bel5 ow6 hwR bel5.size⟩
end Go.Proofs.YtnjmocobncncdaaGreatDoor.Sa
