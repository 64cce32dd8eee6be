/-
  The contract of the document's Of (the digest), over this seat's translation.
-/
import Derived.Test.YtebfdbibeecncaaDoorShaPad
import Derived.Test.YtebfdbibeecncaaDoorShaBlock
import Derived.Test.YtebfdbibeecncaaDoorMemMore
namespace Go.Proofs.YtebfdbibeecncaaDoor.Sha
open Go.ChangeShapes Go.WideShapes Go.ChangeAt Go.RowKit Go.Proofs.YtebfdbibeecncaaDoor.Num Go.Proofs.YtebfdbibeecncaaDoor.Mem Go.Proofs.YtebfdbibeecncaaDoor.Bt
set_option linter.unusedVariables false

theorem z24 : Mem.Zero Tryd.prog 31 (u8s (List.replicate 32 0)) := by unfold Mem.Zero; kernel_rfl
theorem sz24 : Sized Tryd.prog 31 32 := ⟨.array 32 5, by kernel_rfl, rfl, by kernel_rfl⟩
def zO : List Value := u8s (List.replicate 32 0)
theorem zO_len : zO.length = 32 := by unfold zO; rw [u8s_length, List.length_replicate]
theorem zO_one : OneCells zO := u8s_one _
theorem padded_len (l : List Nat) : (padded l).length % 64 = 0 ∧ l.length + 9 ≤ (padded l).length ∧ (padded l).length ≤ l.length + 72 := by
  unfold padded; rw [List.length_append, ending_len]; omega
/-- What holds in the loop over the blocks. -/
structure RfRel (w : World) (l : List Nat) (R H g : Nat) (k : Nat) (wr : World) : Prop where
  rr : Row wr R 31 (u8s (List.replicate 32 0))
  rh : Row wr H 57 (u32s (fold64 k H0 (padded l)).list)
  rp : wr.rangeAt g 0 (u8s (padded l))
  rk : wr.rangeAt 0 0 (u32s ks)
  bel : Below w.heap.size w wr
/-- What holds in the loop over the digest's bytes. -/
structure RoRel (w : World) (s : S8) (k R H U : Nat) (wr : World) : Prop where
  rr : Row wr R 31 (u8s (List.replicate 32 0))
  rh : Row wr H 57 (u32s s.list)
  ru : Row wr U 31 (u8s (fillO s k))
  bel : Below w.heap.size w wr

set_option maxHeartbeats 1600000 in
set_option maxRecDepth 100000 in
theorem refOf_any (bs : List Nat) (p : Option Addr) (cap : Nat) (w : World) (hb : AllLt 256 bs) (hsz : bs.length ≤ 900000) (hcap : bs.length ≤ cap) (hnil : p = none → cap = 0) (hp : bs ≠ [] → ∃ g o, p = some ⟨g, o, none⟩ ∧ w.rangeAt g o (u8s bs)) (hk : w.rangeAt 0 0 (u32s ks)) :
    Calls Tryd.prog 16 #[.slice p bs.length cap] w fun e w' => e = .returned (.agg (u8s (digest bs)).toArray) ∧ Below w.heap.size w w' := by
  have HP := Lib.hid hp; have HN := Lib.hid hnil; have HK := Lib.hid hk
  have hk1 : 0 < w.heap.size := range_lt hk (by simp [u32s, ks])
  clear hp hnil hk
  go_enter Tryd.func16, Tryd.ntmps16
  go_wp2_with (first
    | ((with_reducible refine arm_alloc (o := ⟨some 2, _, _, _, _, _⟩) rfl _ rfl _ z24 ?_); intro R w1 hRe hR1 hN1)
    | (refine arm_build (o := ⟨some 8, _, _, _, _, _⟩) rfl _ _ rfl (u32s H0.list) (by kernel_rfl) ?_)
    | ((with_reducible refine arm_alloc (o := ⟨some 3, _, _, _, _, _⟩) rfl _ rfl _ z40 ?_); intro H w2 hHe hR2 hN2)
    | ((with_reducible refine arm_store (o := ⟨none, _, _, _, _, _⟩) rfl _ _ _ rfl H 0 rfl (u32s H0.list) rfl _ _ hR2 (by rw [u32s_length, u32s_length, list_len]; simp) (u32s_one _) (by rw [u32s_length, list_len]; exact sz40) ?_); intro w3 hR3 hO3 hS3))
  have e1 := hRe.out; have e2 := hHe.out; have z1 := hN1.size; have z2 := hN2.size; have z3 := hS3.out
  have bel3 : Below w.heap.size w w3 := below_only (below_step hN1.below (by omega) hN2.below) hO3 (by omega) (by omega)
  have hRR3 : Row w3 R 31 (u8s (List.replicate 32 0)) := (hR1.old hN2.below).only hO3 (by omega)
  have hRH3 : Row w3 H 57 (u32s H0.list) := hR3.congr (lay_all _ _ (by rw [u32s_length, u32s_length, list_len]; simp))
  have lR : w.heap.size ≤ R := by omega
  have lH : w.heap.size ≤ H := by omega
  have nRH : R ≠ H := by omega
  have lw3 : w.heap.size + 2 ≤ w3.heap.size := by omega
  have hHlt : H < w3.heap.size := hRH3.lt
  have hRlt : R < w3.heap.size := hRR3.lt
  clear e1 e2 z1 z2 z3 hRe hHe hR1 hN1 hR2 hN2 hR3 hO3 hS3 w1 w2
  refine (padded_any bs p cap w3 hb hsz hcap HN.out (fun hne => by
    obtain ⟨g, o, e, hr⟩ := HP.out hne
    exact ⟨g, o, e, range_block hr (bel3.block g (range_lt hr (by intro h; apply hne; simpa [u8s] using h)))⟩)).mono ?_
  rintro e w4 ⟨⟨q, qc, rfl, hOwn⟩, hB4⟩
  obtain ⟨hm64, hlo, hhi⟩ := padded_len bs
  have hpne : padded bs ≠ [] := by intro h; rw [h] at hlo; simp at hlo
  obtain ⟨hqc, hat⟩ := hOwn.at
  obtain ⟨g, go, rfl, hgl, hrg⟩ := hat hpne
  have hg0 : go = 0 := by
    rcases hOwn.own.2 with ⟨hv, _⟩ | ⟨g', cap', cur, hv, _⟩
    · cases hv
    · simp at hv; exact hv.1.2
  subst hg0
  have bel4 : Below w.heap.size w w4 := below_step bel3 (by omega) hB4
  have h0 : RfRel w bs R H g 0 w4 := ⟨hRR3.old hB4, hRH3.old hB4, hrg, range_block HK.out (bel4.block _ hk1), bel4⟩
  have nRg : g ≠ R := by omega
  have nHg : g ≠ H := by omega
  have hplt := padded_lt hb
  obtain ⟨N, hN⟩ : ∃ N : Nat, N = (padded bs).length / 64 := ⟨_, rfl⟩
  have hNl : (padded bs).length = 64 * N := by omega
  have hN2 : N ≤ 15000 := by omega
  have hst : Hid (stOf (padded bs) = fold64 N H0 (padded bs)) := by unfold stOf; rw [hN]; exact rfl
  rw [hNl] at hqc ⊢
  have HNL := Lib.hid hNl; have NRH := Lib.hid nRH; have NRG := Lib.hid nRg; have NHG := Lib.hid nHg
  clear hHlt hRlt lw3 hRR3 hRH3 bel3 hB4 hOwn hat hrg hgl bel4 hm64 hlo hhi hpne hN hNl nRH nRg nHg w3
  go_wp2_with fail
  go_loopw [5] (fun i wr => ∃ k : Nat, k ≤ N ∧ i = .int .i64 (64 * (k : Int)) ∧ RfRel w bs R H g k wr) (fun i _ => 64 * N - (intOf i).toNat)
  case atStart => exact ⟨0, by omega, rfl, h0⟩
  case round =>
    clear h0
    obtain ⟨k, hkN, rfl, hS⟩ := hrel
    have hws : w.heap.size ≤ wr.heap.size := hS.bel.size
    by_cases hlt : k < N
    · go_wp2_with fail
      have hblk : ((padded bs).drop (64 * k)).take 64 = ((padded bs).drop (64 * k)).take 64 := rfl
      have hbl : (((padded bs).drop (64 * k)).take 64).length = 64 := by rw [List.length_take, List.length_drop, HNL.out]; omega
      have hbb : AllLt 256 (((padded bs).drop (64 * k)).take 64) := fun x hx => hplt x (List.mem_of_mem_drop (List.mem_of_mem_take hx))
      have hfd : Hid (fold64 (k + 1) H0 (padded bs) = comp (fold64 k H0 (padded bs)) (((padded bs).drop (64 * k)).take 64)) := Lib.hid (fold64_snoc k H0 (padded bs))
      have hbr : wr.drew.rangeAt g (64 * k) (u8s (((padded bs).drop (64 * k)).take 64)) := fun j v hj => by
        have hj2 := (List.getElem?_eq_some_iff.1 hj).1
        rw [u8s_length, hbl] at hj2
        have := hS.rp (64 * k + j) v (by
          unfold u8s at hj ⊢
          rw [List.getElem?_map, List.getElem?_take, if_pos hj2, List.getElem?_drop] at hj
          rw [List.getElem?_map]; exact hj)
        rw [Nat.zero_add] at this
        exact this
      have hbd : Bd (fold64 k H0 (padded bs)) := fold64_bd _ _ _ H0_bd
      have hSd : RfRel w bs R H g k wr.drew := ⟨hS.rr, hS.rh, hS.rp, hS.rk, hS.bel.trans ((Below.refl _ _).drew)⟩
      clear hblk hS
      generalize ((padded bs).drop (64 * k)).take 64 = blk at hbl hbb hfd hbr
      refine wp_region_any (by kernel_rfl) ?_
      change wpAny _ _ _ _ _ _ _ wr.drew
      have hwd : w.heap.size ≤ wr.drew.heap.size := hws
      generalize wr.drew = wz at hSd hbr hwd ⊢
      have hrh := hSd.rh
      generalize fold64 k H0 (padded bs) = s at hbd hfd hrh
      refine wpAny_take0 (i := 1) (v := .slice (some ⟨g, 0, none⟩) (64 * N) qc) rfl rfl 18 rfl (by kernel_rfl) (by kernel_rfl) (by kernel_rfl) (fun _ _ _ h => h) (run_op_move _ rfl _ rfl) ?_
      simp only [Act.put, List.setIfInBounds_toArray, List.set_cons_zero, List.set_cons_succ]
      refine wpAny_take0 (i := 2) (v := .int .i64 (64 * (k : Int))) rfl rfl 19 rfl (by kernel_rfl) (by kernel_rfl) (by kernel_rfl) (fun _ _ _ h => h) (run_op_move _ rfl _ rfl) ?_
      simp only [Act.put, List.setIfInBounds_toArray, List.set_cons_zero, List.set_cons_succ]
      refine wpAny_take0 (i := 3) (v := .int .i64 (64 * (k : Int))) rfl rfl 20 rfl (by kernel_rfl) (by kernel_rfl) (by kernel_rfl) (fun _ _ _ h => h) (run_op_move _ rfl _ rfl) ?_
      simp only [Act.put, List.setIfInBounds_toArray, List.set_cons_zero, List.set_cons_succ]
      refine wpAny_take0 (i := 4) (v := .int .i64 (64 * (k : Int) + 64)) rfl rfl 21 rfl (by kernel_rfl) (by kernel_rfl) (by kernel_rfl) (fun _ _ _ h => h) (run_op_add _ _ _ _ rfl _ _ rfl rfl (IntWalk.i64_in _ (by omega))) ?_
      simp only [Act.put, List.setIfInBounds_toArray, List.set_cons_zero, List.set_cons_succ]
      refine wpAny_take0 (i := 5) (v := .slice (some ⟨g, 0 + 64 * k, none⟩) (64 * k + 64 - 64 * k) (qc - 64 * k)) rfl rfl 22 rfl (by kernel_rfl) (by kernel_rfl) (by kernel_rfl) (fun _ _ _ h => h) (run_op_slice2 _ _ _ _ rfl 5 (by kernel_rfl) (by kernel_rfl) g 0 _ _ rfl .i64 .i64 _ _ rfl rfl (64 * k) (64 * k + 64) (by omega) (by omega) (by omega) (by omega) (by omega)) ?_
      simp only [Act.put, List.setIfInBounds_toArray, List.set_cons_zero, List.set_cons_succ]
      refine wpAny_one (i := 0) (by kernel_rfl) (wpOp_value (v := .agg (u32s s.list).toArray) rfl rfl (run_op_load _ _ rfl H 0 rfl _ (hrh.range 0 _ (fun j v hj => by rw [Nat.zero_add]; exact hj)) (by rw [u32s_length, list_len]; exact sz40)) ?_)
      change wpAny _ _ _ _ _ _ (Act.put _ (some 17) _) _
      simp only [Act.put, List.setIfInBounds_toArray, List.set_cons_zero, List.set_cons_succ]
      rw [show 64 * k + 64 - 64 * k = 64 from by omega, show 0 + 64 * k = 64 * k from by omega]
      refine wpAny_one (i := 6) (by kernel_rfl) (wpOp_call 23 rfl rfl rfl (run_op_call 20 _ _ rfl #[.agg (u32s s.list).toArray, .slice (some ⟨g, 64 * k, none⟩) 64 (qc - 64 * k)] (by simp only [List.map_toArray, List.map_cons, List.map_nil]; rfl) Tryd.func20 (by kernel_rfl) (by kernel_rfl) wz) (block_any s blk g (64 * k) (qc - 64 * k) wz hbd hbl hbb hbr hSd.rk) ?_)
      rintro e w5 ⟨rfl, hN5⟩
      refine ⟨_, rfl, ?_⟩
      simp only [Act.put, List.setIfInBounds_toArray, List.set_cons_zero, List.set_cons_succ]
      refine wpAny_one (i := 7) (by kernel_rfl) (wpOp_skip rfl rfl rfl (run_op_store _ _ _ rfl H 0 rfl (u32s (comp s blk).list) rfl _ _ (hrh.old hN5) (by rw [u32s_length, list_len, u32s_length, list_len]; omega) (u32s_one _) (by rw [u32s_length, list_len]; exact sz40)) ?_)
      refine wpAny_done (by kernel_rfl) ?_ _
      have hR6 : Row (w5.setRow H (lay (u32s s.list) 0 (u32s (comp s blk).list)).toArray) H 57 (u32s (comp s blk).list) := (row_setRow (hrh.old hN5) _).congr (lay_all _ _ (by rw [u32s_length, list_len, u32s_length, list_len]))
      have hO6 : Only H wz (w5.setRow H (lay (u32s s.list) 0 (u32s (comp s blk).list)).toArray) := (Only.of_below H hN5).trans (Only.setRow _ _ _)
      generalize w5.setRow H (lay (u32s s.list) 0 (u32s (comp s blk).list)).toArray = w6 at hR6 hO6 ⊢
      have hk1z : 0 < wz.heap.size := by omega
      have hglt : g < wz.heap.size := range_lt hSd.rp (by intro h; have := congrArg List.length h; rw [u8s_length, HNL.out] at this; simp at this; omega)
      have hS6 : RfRel w bs R H g (k + 1) w6 := ⟨hSd.rr.only hO6 NRH.out, by rw [hfd.out]; exact hR6, range_block hSd.rp (hO6.block g hglt NHG.out), range_block hSd.rk (hO6.block _ hk1z (by omega)), below_only hSd.bel hO6 lH hwd⟩
      clear hR6 hO6 hN5 hSd hbr hrh
      go_wp2_with fail
      go_roundw
      case rel => exact ⟨k + 1, by omega, by go_num, hS6⟩
      case measure => simp [intOf]; omega
    · obtain rfl : k = N := by omega
      have hbd : Bd (fold64 k H0 (padded bs)) := fold64_bd _ _ _ H0_bd
      have hrh := hS.rh
      generalize fold64 k H0 (padded bs) = s at hbd hst hrh
      have hdg : Hid (digest bs = outOf s) := by unfold digest; rw [hst.out]; exact rfl
      have h1 : Row wr R 31 (u8s (List.replicate 32 0)) := hS.rr
      have hbel := hS.bel
      have hHl := hrh.lt
      have hRl := h1.lt
      clear hS hst hlt
      go_wp2_with (first
        | (refine arm_build (o := ⟨some 24, _, _, _, _, _⟩) rfl _ _ rfl zO (by kernel_rfl) ?_)
        | ((with_reducible refine arm_alloc (o := ⟨some 6, _, _, _, _, _⟩) rfl _ rfl _ z24 ?_); intro U w7 hU hR7 hN7)
        | ((with_reducible refine arm_store (o := ⟨none, _, _, _, _, _⟩) rfl _ _ _ rfl U 0 rfl zO rfl _ _ hR7 (by rw [zO_len, u8s_length, List.length_replicate]; omega) zO_one (by rw [zO_len]; exact sz24) ?_); intro w8 hR8 hO8 hS8))
      have eU := hU.out
      have nU1 : R ≠ U := by omega
      have nU2 : H ≠ U := by omega
      have lU : w.heap.size ≤ U := by omega
      have h0 : RoRel w s 0 R H U w8 := ⟨(h1.old hN7.below).only hO8 nU1, (hrh.old hN7.below).only hO8 nU2, hR8.congr (lay_all _ _ (by rw [zO_len, u8s_length, List.length_replicate])), below_only (below_step hbel hws hN7.below) hO8 lU (by have := hN7.size; omega)⟩
      have NU1 := Lib.hid nU1
      clear eU hU hR7 hN7 hR8 hO8 hS8 h1 hrh hbel hHl hRl nU1 w7
      have nU3 : ¬ U = H := fun h => nU2 h.symm
      go_loopw [7] (fun i wr => ∃ k : Nat, k ≤ 8 ∧ i = .int .i64 k ∧ RoRel w s k R H U wr) (fun i _ => 8 - (intOf i).toNat)
      case atStart => exact ⟨0, by omega, rfl, h0⟩
      case round =>
        clear h0
        obtain ⟨k', hk8, rfl, hS⟩ := hrel
        have hws : w.heap.size ≤ wr.heap.size := hS.bel.size
        by_cases hlt : k' < 8
        · have hbx := getD_lt (list_lt hbd) (by omega) k'
          have ch := hS.rh.cell (u32s_get (l := s.list) (i := k') (by rw [list_len]; exact hlt))
          have hstp : Hid (lay (u8s (fillO s k')) (4 * k') (u8s (bytes4 (s.list.getD k' 0))) = u8s (fillO s (k' + 1))) := Lib.hid (fillO_step s k' hlt)
          generalize s.list.getD k' 0 = x at hbx ch hstp
          have hfl : (u8s (fillO s k')).length = 32 := by rw [u8s_length, fillO_len s k' (by omega)]
          obtain ⟨v0, e0⟩ : ∃ v, (u8s (fillO s k'))[4 * k']? = some v := ⟨_, List.getElem?_eq_getElem (by omega)⟩
          obtain ⟨v1, e1⟩ : ∃ v, (u8s (fillO s k'))[4 * k' + 1]? = some v := ⟨_, List.getElem?_eq_getElem (by omega)⟩
          obtain ⟨v2, e2⟩ : ∃ v, (u8s (fillO s k'))[4 * k' + 2]? = some v := ⟨_, List.getElem?_eq_getElem (by omega)⟩
          obtain ⟨v3, e3⟩ : ∃ v, (u8s (fillO s k'))[4 * k' + 3]? = some v := ⟨_, List.getElem?_eq_getElem (by omega)⟩
          have c0 := hS.ru.cell e0
          have c1 := hS.ru.cell e1
          have c2 := hS.ru.cell e2
          have c3 := hS.ru.cell e3
          have f0 := hS.ru.frozen (4 * k')
          have f1 := hS.ru.frozen (4 * k' + 1)
          have f2 := hS.ru.frozen (4 * k' + 2)
          have f3 := hS.ru.frozen (4 * k' + 3)
          have HFL := Lib.hid hfl
          clear e0 e1 e2 e3 hfl
          go_wp2
          have hr4 := (((hS.ru.set (i := 4 * k') (.int .u8 ((x : Int) / 16777216))).set (i := 4 * k' + 1) (.int .u8 ((x : Int) / 65536 % 256))).set (i := 4 * k' + 2) (.int .u8 ((x : Int) / 256 % 256))).set (i := 4 * k' + 3) (.int .u8 ((x : Int) % 256))
          have ho4 : Only U wr ((((wr.setCell ⟨U, 4 * k', none⟩ (.int .u8 ((x : Int) / 16777216))).setCell ⟨U, 4 * k' + 1, none⟩ (.int .u8 ((x : Int) / 65536 % 256))).setCell ⟨U, 4 * k' + 2, none⟩ (.int .u8 ((x : Int) / 256 % 256))).setCell ⟨U, 4 * k' + 3, none⟩ (.int .u8 ((x : Int) % 256))) := (((Only.setCell U _ wr _).trans (Only.setCell U _ _ _)).trans (Only.setCell U _ _ _)).trans (Only.setCell U _ _ _)
          go_roundw
          case rel => exact ⟨k' + 1, by omega, by go_num, ⟨hS.rr.only ho4 NU1.out, hS.rh.only ho4 nU2, hr4.congr (by rw [lay4 _ _ _ _ _ _ (by rw [HFL.out]; omega), ← u8s_bytes4 x hbx]; exact hstp.out), below_only hS.bel ho4 lU hws⟩⟩
          case measure => simp [intOf]; omega
        · obtain rfl : k' = 8 := by omega
          go_wp2_with (first
            | (with_reducible refine arm_load (o := ⟨some 66, _, _, _, _, _⟩) rfl _ _ rfl U 0 rfl (u8s (fillO s 8)) (hS.ru.range 0 _ (fun j v hj => by rw [Nat.zero_add]; exact hj)) (by rw [u8s_length, fillO_len s 8 (by omega)]; exact sz24) ?_)
            | ((with_reducible refine arm_store (o := ⟨none, _, _, _, _, _⟩) rfl _ _ _ rfl R 0 rfl (u8s (fillO s 8)) rfl _ _ hS.rr (by rw [u8s_length, fillO_len s 8 (by omega), u8s_length, List.length_replicate]; omega) (u8s_one _) (by rw [u8s_length, fillO_len s 8 (by omega)]; exact sz24) ?_); intro w9 hR9 hO9 hS9))
          refine bodyPost_ret (v := .agg (u8s (fillO s 8)).toArray) (result_row (p := 2) (ty := 31) (u := 31) (by kernel_rfl) _ _ R _ rfl (hR9.congr (lay_all _ _ (by rw [u8s_length, u8s_length, fillO_len s 8 (by omega)]; simp))) (by rw [u8s_length, fillO_len s 8 (by omega)]; exact sz24)) rfl ⟨by rw [hdg.out, fillO_all], below_only hS.bel hO9 lR hws⟩
end Go.Proofs.YtebfdbibeecncaaDoor.Sha
