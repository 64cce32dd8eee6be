/-
  The contract of own of layer 19's statements: a state as the document's. Over this seat's translation.
-/
import Derived.Test.YtnjmocobncncdaaGreatDoorStaDo
namespace Go.Proofs.YtnjmocobncncdaaGreatDoor.Sa
open Go.ChangeShapes Go.WideShapes Go.ChangeAt Go.RowKit Go.Proofs.YtnjmocobncncdaaGreatDoor.Mem Go.Proofs.YtnjmocobncncdaaGreatDoor.Bt Go.Proofs.YtnjmocobncncdaaGreatDoor.Wi Go.Proofs.YtnjmocobncncdaaGreatDoor.Tg Go.Proofs.YtnjmocobncncdaaGreatDoor.Sha Go.Proofs.YtnjmocobncncdaaGreatDoor.Rg
open Go.Proofs.YtnjmocobncncdaaGreatDoor.Ep (H32 Dat zh zh_ok num32 dcs dcs_len dcs_one zd zd_ok Has h_len one_app one_num szH sz_dat built_rpair p_now p_next)
set_option linter.unusedVariables false
set_option linter.unusedSimpArgs false

set_option maxHeartbeats 4000000 in
set_option maxRecDepth 100000 in
theorem own19_any (s : Sta) (w : World) (ok : s.Ok) : Calls Tryz.prog 8 #[.agg (scs s).toArray] w fun e w' => e = .returned (.agg (scs s).toArray) ∧ Below w.heap.size w w' := by
  have OK := Lib.hid ok
  have BW := Lib.hid (Wn.built_rwin s.min s.last s.counts ok.counts)
  have BP := Lib.hid (built_rpair ok.now ok.next)
  have BS := Lib.hid (built_all ok)
  clear ok
  go_enter Tryz.func8, Tryz.ntmps8
  go_wp2_with (first
    | ((with_reducible refine at_slot 1 ?_); (refine arm_box (o := ⟨some 1, _, _, _, _, _⟩) rfl _ _ rfl (scs s) rfl ?_); intro S w1 Se hw1 nw1)
    | ((with_reducible refine at_slot 2 ?_); (refine arm_alloc (o := ⟨some 2, _, _, _, _, _⟩) rfl _ rfl (scs zs) z_rsta ?_); intro R w2 Re hw2 nw2; have hs2 := hw1.old nw2.below; have x96 : w2.cell? ⟨S, 96, none⟩ = some (.int .u32 (s.slot : Int)) := hs2.cell (sc_slot OK.out); have x97 : w2.cell? ⟨S, 97, none⟩ = some (.int .u32 (s.len : Int)) := hs2.cell (sc_len OK.out); have x98 : w2.cell? ⟨S, 98, none⟩ = some (.int .u32 (s.count : Int)) := hs2.cell (sc_count OK.out); have x99 : w2.cell? ⟨S, 99, none⟩ = some (.int .u32 (s.min : Int)) := hs2.cell (sc_min OK.out))
    | ((with_reducible refine at_slot 4 ?_); (refine arm_load (o := ⟨some 4, _, _, _, _, _⟩) rfl _ _ rfl S 0 rfl (u8s s.prev) ((h_prev OK.out).range hs2) (szH OK.out.prev) ?_))
    | ((with_reducible refine at_slot 6 ?_); (refine arm_load (o := ⟨some 6, _, _, _, _, _⟩) rfl _ _ rfl S 32 rfl (u8s s.led) ((h_ledg OK.out).range hs2) (szH OK.out.led) ?_))
    | ((with_reducible refine at_slot 8 ?_); (refine arm_load (o := ⟨some 8, _, _, _, _, _⟩) rfl _ _ rfl S 64 rfl (u8s s.draw) ((h_drw OK.out).range hs2) (szH OK.out.draw) ?_))
    | ((with_reducible refine at_slot 20 ?_); (refine arm_load (o := ⟨some 20, _, _, _, _, _⟩) rfl _ _ rfl S 100 rfl (rcs s.last s.counts) (((s_win OK.out).right (a := [num32 s.min]) 1 rfl).range hs2) (sz_ring' OK.out.counts) ?_))
    | ((with_reducible refine at_slot 21 ?_); (refine arm_build (o := ⟨some 21, _, _, _, _, _⟩) rfl _ _ rfl (Wn.wcs s.min s.last s.counts) (by simp only [List.map_toArray, List.map_cons, List.map_nil]; exact BW.out) ?_))
    | ((with_reducible refine at_slot 24 ?_); (refine arm_load (o := ⟨some 24, _, _, _, _, _⟩) rfl _ _ rfl S 105 rfl (dcs s.now) (((s_eps OK.out).left).range hs2) (sz_dat OK.out.now) ?_))
    | ((with_reducible refine at_slot 27 ?_); (refine arm_load (o := ⟨some 27, _, _, _, _, _⟩) rfl _ _ rfl S 234 rfl (dcs s.next) (((s_eps OK.out).right 129 (dcs_len OK.out.now)).range hs2) (sz_dat OK.out.next) ?_))
    | ((with_reducible refine at_slot 28 ?_); (refine arm_build (o := ⟨some 28, _, _, _, _, _⟩) rfl _ _ rfl (Ep.pcs s.now s.next) (by simp only [List.map_toArray, List.map_cons, List.map_nil]; exact BP.out) ?_))
    | ((with_reducible refine at_slot 29 ?_); (refine arm_build (o := ⟨some 29, _, _, _, _, _⟩) rfl _ _ rfl (scs s) (by simp only [List.map_toArray, List.map_cons, List.map_nil]; exact BS.out) ?_))
    | ((with_reducible refine arm_store (o := ⟨none, _, _, _, _, _⟩) rfl _ _ _ rfl R 0 rfl (scs s) rfl _ _ hw2 (fitS OK.out) (scs_one _) (sz_rsta OK.out) ?_); intro w3 hw3 ow3 sw3))
  have e1 := Se.out; have e2 := Re.out; have s1 := nw1.size; have s2 := nw2.size
  have bel : Below w.heap.size w w2 := below_step nw1.below (by omega) nw2.below
  exact bodyPost_ret (v := .agg (scs s).toArray) (result_row (p := 2) (ty := 55) (u := 55) (by kernel_rfl) _ _ R (scs s) rfl (hw3.congr (allS OK.out)) (sz_rsta OK.out)) rfl ⟨rfl, below_only bel ow3 (by omega) bel.size⟩
end Go.Proofs.YtnjmocobncncdaaGreatDoor.Sa
