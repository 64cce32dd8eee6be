/-
  The contract of layer 9's awake, over this seat's translation: the calls whose answers the document fixes answer so: it returns true.
-/
import Derived.Test.YtddnolppjlbibaaDoorStaDo
import Derived.Test.YtddnolppjlbibaaDoorStaSpec
import Derived.Test.YtddnolppjlbibaaDoorShaAll
namespace Go.Proofs.YtddnolppjlbibaaDoor.Sa
open Go.ChangeShapes Go.WideShapes Go.ChangeAt Go.RowKit Go.Proofs.YtddnolppjlbibaaDoor.Mem Go.Proofs.YtddnolppjlbibaaDoor.Bt Go.Proofs.YtddnolppjlbibaaDoor.Wi Go.Proofs.YtddnolppjlbibaaDoor.Tg Go.Proofs.YtddnolppjlbibaaDoor.Sha
open Go.Proofs.YtddnolppjlbibaaDoor.Ep (H32 Dat zh zh_ok num32 dcs dcs_len dcs_one zd zd_ok Has h_len one_app one_num szH zH fitH allH tagD_lt)
set_option linter.unusedVariables false
set_option linter.unusedSimpArgs false

/-- What is read of a state's own bytes. -/
theorem rd_back {s : Sta} (k : s.Ok) : rdS (staB s) = if SRt s then (s, 0) else (zs, 2) := by
  unfold rdS
  rw [end_all (staB_len k), sta_back k, if_neg (by decide)]
theorem rd_short {b : List Nat} (h : b.length < 396) : rdS b = (zs, 3) := by
  unfold rdS
  rw [end_short h, if_pos (by decide)]
theorem rd_long {b : List Nat} (h : 396 < b.length) : rdS b = (zs, 4) := by
  unfold rdS
  rw [end_long h, if_pos (by decide)]
def h5 : List Nat := 5 :: List.replicate 31 0
theorem h5_ok : H32 h5 := ⟨rfl, fun x hx => by
  rcases List.mem_cons.1 hx with rfl | h
  · decide
  · have := List.eq_of_mem_replicate h; omega⟩
theorem srt_gen (x : List Nat) : SRt (genS x) := ⟨(by decide : Wn.WRt 12 0 [1, 3, 3, 3]), (by decide : 0 = 0 / 3), ⟨Nat.le_refl 1, (by decide : 1 ≤ 0 + 1)⟩, (by decide : 0 ≤ 0 / 24), (by decide : 0 < 1), ⟨Nat.le_refl 1, (by decide : 1 ≤ 0 % 24 + 1)⟩, Nat.le_refl 1⟩
theorem srt_zero : ¬ SRt zs := fun h => absurd h.2.2.1.1 (by decide : ¬ 1 ≤ 0)
set_option maxRecDepth 100000 in
theorem dg0 : (digest (image (bytesOf nameS) [staB (genS h5)])).getD 0 0 = 91 := by kernel_rfl
theorem dig_ne : digS (genS h5) ≠ zh := by
  intro h
  have h1 : (digS (genS h5)).getD 0 0 = 91 := by
    unfold digS tagD
    rw [if_pos ⟨by decide, by decide⟩]
    exact dg0
  rw [h] at h1
  revert h1
  decide
theorem run_op_neqD {o : Oper} {a : Act} (x y : Operand) (t' : TypeId) (ho : o.op = .binOp .neq 23 x y t') (xs ys : List Nat) (hlx : xs.length = 32) (hly : ys.length = 32) (hx : a.eval x = .agg (u8s xs).toArray) (hy : a.eval y = .agg (u8s ys).toArray) (b : Bool) (hb : decide (xs = ys) = b) (w : World) : (execOp a.eval o).run Tryd.prog w = .ok (.value (.bool (!b))) w := by
  subst hb
  exact run_op_neq2 x y t' ho xs ys hlx hly hx hy w
set_option maxHeartbeats 4000000 in
set_option maxRecDepth 100000 in
theorem awake_any (w : World) (hk : w.rangeAt 0 0 (u32s ks)) :
    Calls Tryd.prog 6 #[] w fun e w' => e = .returned (.bool true) ∧ Below w.heap.size w w' := by
  have hk1 : 0 < w.heap.size := range_lt hk (by simp [u32s, ks])
  have HKW : Hid (∀ w', Below w.heap.size w w' → w'.rangeAt 0 0 (u32s ks)) := Lib.hid fun w' hb => range_block hk (hb.block _ hk1)
  have gk := gen_ok h5_ok
  have B5 : Hid (Tryd.prog.built 23 [(0, .int .u8 5)] = some (u8s h5).toArray) := Lib.hid (by kernel_rfl)
  have B0 : Hid (Tryd.prog.built 23 [] = some (u8s zh).toArray) := Lib.hid (by kernel_rfl)
  have CG := Lib.hid (fun w0 => sgenesis_any h5 w0 h5_ok)
  have CH := Lib.hid (fun w0 h => shash_any (genS h5) w0 gk h)
  have CR := Lib.hid (fun w0 => right_any (genS h5) w0 gk)
  have CZ := Lib.hid (fun w0 => right_any zs w0 zs_ok)
  have HN := dig_ne
  have hr := rd_back gk
  rw [if_pos (srt_gen h5)] at hr
  have hsr := srt_gen h5
  have hsl : (scs (genS h5))[97]? = some (.int .u32 1) := sc_len gk
  have hs5 : (scs (genS h5))[32]? = some (.int .u8 5) := by
    have h := (s_hash gk (i := 1) (by omega) rfl)
    exact Has.get (cs := scs (genS h5)) (o := 32) (v := .int .u8 5) (Has.left (b := u8s (List.replicate 31 0)) h)
  have hbl := staB_len gk
  have hblt := bP_lt gk 22
  have hdk := digS_ok (genS h5)
  generalize digS (genS h5) = dd at CH HN hdk
  obtain ⟨g, hg⟩ : ∃ g, g = genS h5 := ⟨_, rfl⟩
  rw [← hg] at gk CG CH CR hr hsr hsl hs5 hbl hblt
  rw [decide_eq_true hsr] at CR
  rw [decide_eq_false srt_zero] at CZ
  have hlt2 : AllLt 256 (staB g) := hblt
  clear hblt hsr hg hk
  have CB := Lib.hid (fun w0 => bytes_any g w0 gk)
  have CRD := Lib.hid (fun (p : Option Addr) (cap : Nat) (w0 : World) (h1 : Rd w0 p (staB g)) (h2 : p = none → (staB g).length = 0 ∧ cap = 0) => (sread_any (staB g) p cap w0 h1 h2 (by rw [hbl]; omega) hlt2).mono (fun e w' h => (⟨by rw [h.ret, hr]; rfl, h.bel⟩ : e = .returned (.tuple #[.agg (scs g).toArray, .int .i64 0]) ∧ Below w0.heap.size w0 w')))
  have CRN := Lib.hid (fun (w0 : World) => (sread_any [] none 0 w0 ⟨fun h => absurd rfl h⟩ (fun _ => ⟨rfl, rfl⟩) (by simp) (fun x hx => by cases hx)).mono (fun e w' h => (⟨by rw [h.ret, rd_short (by decide)]; rfl, h.bel⟩ : e = .returned (.tuple #[.agg (scs zs).toArray, .int .i64 3]) ∧ Below w0.heap.size w0 w')))
  have GK := Lib.hid gk; have HDK := Lib.hid hdk; have HBL := Lib.hid hbl
  have hL : (((staB g).length : Int) == 396) = true := by rw [hbl]; rfl
  have HND := Lib.hid (decide_eq_false HN)
  clear gk hdk hbl hr HN
  generalize staB g = bs at CB CRD HBL hL hlt2
  clear hlt2
  go_enter Tryd.func6, Tryd.ntmps6
  go_wp2_with (first
    | ((with_reducible refine at_slot 7 ?_); (refine arm_build (o := ⟨some 7, _, _, _, _, _⟩) rfl _ _ rfl (u8s h5) (by simp only [List.map_toArray, List.map_cons, List.map_nil]; exact B5.out) ?_)))
  refine (CG.out w).mono ?_
  rintro e w1 ⟨rfl, hB1⟩
  go_wp2_with (first
    | ((with_reducible refine at_slot 1 ?_); (refine arm_alloc (o := ⟨some 1, _, _, _, _, _⟩) rfl _ rfl (scs zs) z_sta ?_); intro S w2 Se hw2 nw2)
    | ((with_reducible refine arm_store (o := ⟨none, _, _, _, _, _⟩) rfl _ _ _ rfl S 0 rfl (scs g) rfl _ _ hw2 (fitS GK.out) (scs_one _) (sz_sta GK.out) ?_); intro w3 hw3 ow3 sw3; have hs3 := hw3.congr (allS GK.out))
    | ((with_reducible refine at_slot 9 ?_); (refine arm_load (o := ⟨some 9, _, _, _, _, _⟩) rfl _ _ rfl S 0 rfl (scs g) ((Has.refl _).range hs3) (sz_sta GK.out) ?_)))
  have e1 := Se.out; have z1 := nw2.size; have z2 := hB1.size; have z3 := sw3.out
  have bel3 : Below w.heap.size w w3 := below_only (below_step hB1 z2 nw2.below) ow3 (by omega) (by omega)
  clear hw2 nw2 hw3 ow3 sw3 hB1 e1 z1 z2 z3 Se
  refine (CB.out w3).mono ?_
  rintro e w4 ⟨⟨q, c, rfl, hO⟩, hB4⟩
  have hs4 := hs3.old hB4
  have bel4 : Below w.heap.size w w4 := below_step bel3 bel3.size hB4
  have HO := Lib.hid hO
  clear hs3 bel3 hB4 hO
  go_wp2_with fail
  refine (CRD.out q c w4 HO.out.rd (own_none HO.out)).mono ?_
  rintro e w5 ⟨rfl, hB5⟩
  have hs5 := hs4.old hB5
  have bel5 : Below w.heap.size w w5 := below_step bel4 bel4.size hB5
  clear hs4 bel4 hB5 HO
  go_wp2_with (first
    | ((with_reducible refine at_slot 3 ?_); (refine arm_alloc (o := ⟨some 3, _, _, _, _, _⟩) rfl _ rfl (scs zs) z_sta ?_); intro T w6 Te hw6 nw6; have hs6 := hs5.old nw6.below)
    | ((with_reducible refine arm_store (o := ⟨none, _, _, _, _, _⟩) rfl _ _ _ rfl T 0 rfl (scs g) rfl _ _ hw6 (fitS GK.out) (scs_one _) (sz_sta GK.out) ?_); intro w7 hw7 ow7 sw7; have ht7 := hw7.congr (allS GK.out); have hs7 := hs6.only ow7 (by have := hs5.lt; have := Te.out; omega)))
  have e1 := Te.out; have z1 := nw6.size; have z2 := bel5.size; have z3 := sw7.out
  have bel7 : Below w.heap.size w w7 := below_only (below_step bel5 z2 nw6.below) ow7 (by omega) (by omega)
  clear hw6 nw6 hw7 ow7 sw7 hs5 hs6 bel5 e1 z1 z2 z3 Te
  refine (CRN.out w7).mono ?_
  rintro e w8 ⟨rfl, hB8⟩
  have hs8 := hs7.old hB8; have ht8 := ht7.old hB8
  have bel8 : Below w.heap.size w w8 := below_step bel7 bel7.size hB8
  clear hs7 ht7 bel7 hB8
  go_wp2_with (first
    | ((with_reducible refine at_slot 5 ?_); (refine arm_alloc (o := ⟨some 5, _, _, _, _, _⟩) rfl _ rfl (scs zs) z_sta ?_); intro U w9 Ue hw9 nw9; have hs9 := hs8.old nw9.below; have ht9 := ht8.old nw9.below)
    | ((with_reducible refine arm_store (o := ⟨none, _, _, _, _, _⟩) rfl _ _ _ rfl U 0 rfl (scs zs) rfl _ _ hw9 (fitS zs_ok) (scs_one _) (sz_sta zs_ok) ?_); intro wa hwa owa swa; have hsa := hs9.only owa (by have := hs8.lt; have := Ue.out; omega); have hta := ht9.only owa (by have := ht8.lt; have := Ue.out; omega))
    | ((with_reducible refine at_slot 28 ?_); (refine arm_want (.agg (scs g).toArray) 28 rfl (by kernel_rfl) (run_op_load _ _ rfl T 0 rfl (scs g) ((Has.refl _).range hta) (sz_sta GK.out)) ?_))
    | ((with_reducible refine at_slot 29 ?_); (refine arm_want (.agg (scs g).toArray) 29 rfl (by kernel_rfl) (run_op_load _ _ rfl S 0 rfl (scs g) ((Has.refl _).range hsa) (sz_sta GK.out)) ?_))
    | ((with_reducible refine at_slot 30 ?_); (refine arm_want (.bool true) 30 rfl (by kernel_rfl) (run_op_eqlS GK.out GK.out _ _ _ rfl rfl rfl true (by simp) _) ?_))
    | ((with_reducible refine at_slot 33 ?_); (refine arm_want (.agg (scs g).toArray) 33 rfl (by kernel_rfl) (run_op_load _ _ rfl S 0 rfl (scs g) ((Has.refl _).range hsa) (sz_sta GK.out)) ?_)))
  have e1 := Ue.out; have z1 := nw9.size; have z2 := bel8.size; have z3 := swa.out
  have bela : Below w.heap.size w wa := below_only (below_step bel8 z2 nw9.below) owa (by omega) (by omega)
  clear hs8 ht8 hs9 ht9 hw9 nw9 hwa owa swa bel8 e1 z1 z2 z3 Ue
  refine (CR.out wa).mono ?_
  rintro e wb ⟨rfl, hBb⟩
  have hsb := hsa.old hBb
  have belb : Below w.heap.size w wb := below_step bela bela.size hBb
  have c97 := hsb.cell hsl
  have c32 := hsb.cell hs5
  clear hsa hta bela hBb hsl hs5
  go_wp2_with (first
    | ((with_reducible refine at_slot 52 ?_); (refine arm_want (.agg (scs zs).toArray) 52 rfl (by kernel_rfl) (run_op_build _ _ rfl (scs zs) (by simp only [List.map_toArray, List.map_nil]; exact built_sta0) _) ?_)))
  refine (CZ.out wb).mono ?_
  rintro e wc ⟨rfl, hBc⟩
  have hsc := hsb.old hBc
  have belc : Below w.heap.size w wc := below_step belb belb.size hBc
  clear hsb belb hBc c97 c32
  go_wp2_with (first
    | ((with_reducible refine at_slot 57 ?_); (refine arm_want (.agg (scs g).toArray) 57 rfl (by kernel_rfl) (run_op_load _ _ rfl S 0 rfl (scs g) ((Has.refl _).range hsc) (sz_sta GK.out)) ?_)))
  refine (CH.out wc (HKW.out wc belc)).mono ?_
  rintro e wd ⟨rfl, hBd⟩
  have beld : Below w.heap.size w wd := below_step belc belc.size hBd
  clear hsc belc hBd
  go_wp2_with (first
    | ((with_reducible refine at_slot 59 ?_); (refine arm_want (.agg (u8s zh).toArray) 59 rfl (by kernel_rfl) (run_op_build _ _ rfl (u8s zh) (by simp only [List.map_toArray, List.map_nil]; exact B0.out) _) ?_))
    | ((with_reducible refine at_slot 60 ?_); (refine arm_want (.bool (!false)) 60 rfl (by kernel_rfl) (run_op_neqD _ _ _ rfl dd zh HDK.out.len zh_ok.len rfl rfl false HND.out _) ?_)))
  go_ret
  exact ⟨rfl, beld⟩
end Go.Proofs.YtddnolppjlbibaaDoor.Sa
