/-
  The contract of package link's Line. Over this seat's translation.
-/
import Derived.Test.YtphbpndjebfacaaDoorLnkFollow
import Derived.WalkMore
import Derived.ScopeJumps
namespace Go.Proofs.YtphbpndjebfacaaDoor.Lk
open Go.ChangeShapes Go.WideShapes Go.ChangeAt Go.RowKit Go.Proofs.YtphbpndjebfacaaDoor.Mem Go.Proofs.YtphbpndjebfacaaDoor.Bt Go.Proofs.YtphbpndjebfacaaDoor.Rg Go.Proofs.YtphbpndjebfacaaDoor.Wn Go.Proofs.YtphbpndjebfacaaDoor.Sa Go.Proofs.YtphbpndjebfacaaDoor.Sha Go.Proofs.YtphbpndjebfacaaDoor.Gr Go.Proofs.YtphbpndjebfacaaDoor.Sl
open Go.Proofs.YtphbpndjebfacaaDoor.Ep (H32 Dat Blk zh zh_ok num32 zd zd_ok Has h_len one_app one_num szH zH fitH allH)
set_option linter.unusedVariables false
set_option linter.unusedSimpArgs false

structure LnRelS (w : World) (l : List Sta) (P : Option Addr) (q : Nat × Int) (i : Value) (f : Value) (wr : World) : Prop where
  ex : ∃ j : Nat, i = .int .i64 ((j : Int) + 1) ∧ (j + 1 < l.length ∨ j = 0 ∨ j + 1 = l.length) ∧ LnAt l q j ∧ f = .int .i64 0
  bel : Below w.heap.size w wr
set_option maxHeartbeats 4000000 in
set_option maxRecDepth 100000 in
theorem line_any (l : List Sta) (P : Option Addr) (pc : Nat) (w : World) (hs : At kS w P l) (hr : ∀ t r, l = t :: r → SRt t) (hm : l.length ≤ 1000) (hk : w.rangeAt 0 0 (u32s ks)) :
    Calls Tryd.prog 11 #[.slice P l.length pc] w fun e w' => e = .returned (.tuple #[.int .i64 ((lineF l).1 : Nat), .int .i64 (lineF l).2]) ∧ Below w.heap.size w w' := by
  have hk1 : 0 < w.heap.size := range_lt hk (by simp [u32s, ks])
  have HKW : Hid (∀ w', Below w.heap.size w w' → w'.rangeAt 0 0 (u32s ks)) := Lib.hid fun w' hb => range_block hk (hb.block _ hk1)
  have HS := Lib.hid hs
  have H0 := Lib.hid (lnAt_start hr)
  generalize lineF l = q at H0 ⊢
  obtain ⟨qn, qe⟩ := q
  show Calls _ _ _ _ fun e w' => e = .returned (.tuple #[.int .i64 (qn : Nat), .int .i64 qe]) ∧ Below w.heap.size w w'
  clear hs hr hk hk1
  go_enter Tryd.func11, Tryd.ntmps11
  go_wp2_with fail
  refine wp_scope_jumps 0 (fun a' w' => Below w.heap.size w w' ∧ ∃ u1 u2 u3 u6 u7 u8 u9 u10 u11 u12 u13 u14 u15 u16 u17 u18 u19 u20 u21 u22 u23 u24 u25 u26 u27 : Value, a' = { tmps := #[.slice P l.length pc, u1, u2, u3, .int .i64 (qn : Int), .int .i64 qe, u6, u7, u8, u9, u10, u11, u12, u13, u14, u15, u16, u17, u18, u19, u20, u21, u22, u23, u24, u25, u26, u27], defers := [] }) (fun _ _ => 0) rfl ?_ ?_
  case refine_2 =>
    rintro a' w' ⟨bel, u1, u2, u3, u6, u7, u8, u9, u10, u11, u12, u13, u14, u15, u16, u17, u18, u19, u20, u21, u22, u23, u24, u25, u26, u27, rfl⟩
    go_wp2_with fail
    simp only [Exit.jump]
    go_ret2
    exact ⟨rfl, bel⟩
  go_wp2_with fail
  have h0' : LnRelS w l P (qn, qe) (.int .i64 1) (.int .i64 0) w := ⟨⟨0, by simp, by omega, H0.out, rfl⟩, Below.refl _ _⟩
  go_loopw [4, 5] (fun i f wr => LnRelS w l P (qn, qe) i f wr) (fun i _ _ => l.length - (intOf i).toNat)
  case atStart => exact h0'
  case round =>
    obtain ⟨⟨j, rfl, hjl, hln, rfl⟩, bel⟩ := hrel
    clear h0' H0
    by_cases hlt : j + 1 < l.length
    · obtain ⟨t, c, ht, hc, hrt, hgo, hst⟩ := lnAt_round hln hlt
      obtain ⟨g, o, hP, hgl, r1⟩ := HS.out.at_ j t ht
      obtain ⟨g', o', hP', _, r2⟩ := HS.out.at_ (j + 1) c hc
      have kt := HS.out.ok t (List.mem_of_getElem? ht)
      have kc := HS.out.ok c (List.mem_of_getElem? hc)
      subst hP
      obtain ⟨rfl, rfl⟩ : g = g' ∧ o = o' := by simpa using hP'
      replace r1 : wr.rangeAt g (o + j * 363) (scs t) := range_block r1 (bel.block g hgl)
      replace r2 : wr.rangeAt g (o + (j + 1) * 363) (scs c) := range_block r2 (bel.block g hgl)
      have hgr : g < wr.heap.size := Nat.lt_of_lt_of_le hgl bel.size
      have KT := Lib.hid kt; have KC := Lib.hid kc; have HGO := Lib.hid hgo; have HST := Lib.hid hst
      have CF := Lib.hid (fun w0 h => follows_any t c w0 kt hrt kc h)
      generalize folE t c = z at HGO HST CF
      clear ht hc hrt hgo hst hP' kt kc hln hjl
      have ik : (j : Int) + 1 < (l.length : Int) := by omega
      have HW1 : Hid (IntKind.i64.wrap ((j : Int) + 1 - 1) = (j : Int)) := Lib.hid (by rw [IntKind.wrap_i64]; omega)
      go_wp2_with fail
      refine wp_region_held (S := fun w' => w'.rangeAt g (o + j * 363) (scs t) ∧ w'.rangeAt g (o + (j + 1) * 363) (scs c)) (by kernel_rfl) ?_
      change wpAnyH _ _ _ _ _ _ _ _ wr.drew
      have hS : wr.drew.rangeAt g (o + j * 363) (scs t) ∧ wr.drew.rangeAt g (o + (j + 1) * 363) (scs c) := ⟨r1, r2⟩
      replace bel : Below w.heap.size w wr.drew := bel.trans ((Below.refl _ _).drew)
      replace hgr : g < wr.drew.heap.size := hgr
      clear r1 r2
      generalize wr.drew = wz at hS bel hgr ⊢
      refine h_take 0 (.slice (some ⟨g, o, none⟩) l.length pc) rfl 12 rfl (by kernel_rfl) (by kernel_rfl) (by kernel_rfl) (by kernel_rfl) (fun _ _ _ h => h) (fun w' _ => by kernel_rfl) hS ?_
      simp only [Act.put, List.setIfInBounds_toArray, List.set_cons_zero, List.set_cons_succ]
      refine h_take 1 (.int .i64 ((j : Int) + 1)) rfl 13 rfl (by kernel_rfl) (by kernel_rfl) (by kernel_rfl) (by kernel_rfl) (fun _ _ _ h => h) (fun w' _ => by kernel_rfl) hS ?_
      simp only [Act.put, List.setIfInBounds_toArray, List.set_cons_zero, List.set_cons_succ]
      refine h_take 2 (.int .i64 (j : Int)) rfl 14 rfl (by kernel_rfl) (by kernel_rfl) (by kernel_rfl) (by kernel_rfl) (fun _ _ _ h => h) (fun w' _ => run_op_sub64 _ _ _ _ rfl _ _ _ rfl rfl HW1.out w') hS ?_
      simp only [Act.put, List.setIfInBounds_toArray, List.set_cons_zero, List.set_cons_succ]
      refine h_take 3 (.pointer (some ⟨g, o + j * 363, none⟩)) rfl 15 rfl (by kernel_rfl) (by kernel_rfl) (by kernel_rfl) (by kernel_rfl) (fun _ _ _ h => h) (fun w' _ => run_op_index fS _ _ rfl g o _ _ rfl .i64 _ rfl j rfl (by omega) w') hS ?_
      simp only [Act.put, List.setIfInBounds_toArray, List.set_cons_zero, List.set_cons_succ]
      refine h_take 4 (.agg (scs t).toArray) rfl 16 rfl (by kernel_rfl) (by kernel_rfl) (by kernel_rfl) (by kernel_rfl) (fun _ _ _ h => h) (fun w' hw => run_op_load _ _ rfl g (o + j * 363) rfl (scs t) hw.1 (fS.sized KT.out)) hS ?_
      simp only [Act.put, List.setIfInBounds_toArray, List.set_cons_zero, List.set_cons_succ]
      refine h_take 5 (.slice (some ⟨g, o, none⟩) l.length pc) rfl 17 rfl (by kernel_rfl) (by kernel_rfl) (by kernel_rfl) (by kernel_rfl) (fun _ _ _ h => h) (fun w' _ => by kernel_rfl) hS ?_
      simp only [Act.put, List.setIfInBounds_toArray, List.set_cons_zero, List.set_cons_succ]
      refine h_take 6 (.int .i64 ((j : Int) + 1)) rfl 18 rfl (by kernel_rfl) (by kernel_rfl) (by kernel_rfl) (by kernel_rfl) (fun _ _ _ h => h) (fun w' _ => by kernel_rfl) hS ?_
      simp only [Act.put, List.setIfInBounds_toArray, List.set_cons_zero, List.set_cons_succ]
      refine h_take 7 (.pointer (some ⟨g, o + (j + 1) * 363, none⟩)) rfl 19 rfl (by kernel_rfl) (by kernel_rfl) (by kernel_rfl) (by kernel_rfl) (fun _ _ _ h => h) (fun w' _ => run_op_index fS _ _ rfl g o _ _ rfl .i64 _ rfl (j + 1) (by omega) (by omega) w') hS ?_
      simp only [Act.put, List.setIfInBounds_toArray, List.set_cons_zero, List.set_cons_succ]
      refine h_take 8 (.agg (scs c).toArray) rfl 20 rfl (by kernel_rfl) (by kernel_rfl) (by kernel_rfl) (by kernel_rfl) (fun _ _ _ h => h) (fun w' hw => run_op_load _ _ rfl g (o + (j + 1) * 363) rfl (scs c) hw.2 (fS.sized KC.out)) hS ?_
      simp only [Act.put, List.setIfInBounds_toArray, List.set_cons_zero, List.set_cons_succ]
      refine h_one (i := 9) (by kernel_rfl) (o_call rfl 21 rfl (by kernel_rfl) (run_op_call 9 _ _ rfl #[.agg (scs t).toArray, .agg (scs c).toArray] (by simp only [List.map_toArray, List.map_cons, List.map_nil]; rfl) Tryd.func9 (by kernel_rfl) (by kernel_rfl) _) (CF.out _ (HKW.out _ bel)) ?_)
      rintro e wy ⟨rfl, hB⟩
      replace hS : wy.rangeAt g (o + j * 363) (scs t) ∧ wy.rangeAt g (o + (j + 1) * 363) (scs c) := ⟨range_block hS.1 (hB.block g hgr), range_block hS.2 (hB.block g hgr)⟩
      replace bel : Below w.heap.size w wy := below_step bel bel.size hB
      clear hB hgr
      refine ⟨_, rfl, hS, ?_⟩
      simp only [Act.put, List.setIfInBounds_toArray, List.set_cons_zero, List.set_cons_succ]
      refine h_take 10 (.int .i64 z) rfl 5 rfl (by kernel_rfl) (by kernel_rfl) (by kernel_rfl) (by kernel_rfl) (fun _ _ _ h => h) (fun w' _ => by kernel_rfl) hS ?_
      simp only [Act.put, List.setIfInBounds_toArray, List.set_cons_zero, List.set_cons_succ]
      refine wpAnyH_done (by kernel_rfl) ?_ _
      clear hS
      by_cases hz : z = 0
      · obtain rfl := hz
        have hn := HGO.out rfl
        clear HGO HST CF
        go_wp2_with fail
        go_roundw
        case rel => exact ⟨⟨j + 1, by go_num, by omega, hn, rfl⟩, bel⟩
        case measure => simp [intOf]; omega
      · have hz1 : (z == 0) = false := beq_eq_false_iff_ne.2 hz
        have hz2 : (z != 0) = true := bne_iff_ne.2 hz
        have hq := HST.out hz
        have HQ1 := Lib.hid (show qn = j + 1 from (congrArg Prod.fst hq).symm)
        have HQ2 := Lib.hid (show qe = z from (congrArg Prod.snd hq).symm)
        clear HGO HST CF hz hq
        go_wp2_with fail
        go_step3
        obtain rfl := HQ1.out; obtain rfl := HQ2.out
        exact ⟨rfl, bel, _, _, _, _, _, _, _, _, _, _, _, _, _, _, _, _, _, _, _, _, _, _, _, _, _, rfl⟩
    · have hq := hln.2 hlt
      obtain rfl : l.length = qn := congrArg Prod.fst hq
      obtain rfl : (0 : Int) = qe := congrArg Prod.snd hq
      have ik : ¬ ((j : Int) + 1 < (l.length : Int)) := by omega
      clear hq hln hjl
      go_wp2_with fail
      simp only [Exit.jump]
      go_ret2
      exact ⟨rfl, bel⟩
end Go.Proofs.YtphbpndjebfacaaDoor.Lk
