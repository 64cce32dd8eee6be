/-
  The walk of layer 9's statement StateReads over this seat's translation, out of the contracts: it returns true, and changes nothing that was there.
-/
import Derived.Test.YtddnolppjlbibaaDoorStaAwake
import Derived.Test.YtddnolppjlbibaaDoorStaOwn
import Derived.Test.YtddnolppjlbibaaDoorStaRRead
namespace Go.Proofs.YtddnolppjlbibaaDoor.Sa
open Go.ChangeShapes Go.WideShapes Go.ChangeAt Go.RowKit Go.Proofs.YtddnolppjlbibaaDoor.Mem Go.Proofs.YtddnolppjlbibaaDoor.Bt Go.Proofs.YtddnolppjlbibaaDoor.Wi Go.Proofs.YtddnolppjlbibaaDoor.Tg Go.Proofs.YtddnolppjlbibaaDoor.Sha Go.Proofs.YtddnolppjlbibaaDoor.Rg
open Go.Proofs.YtddnolppjlbibaaDoor.Ep (H32 Dat zh zh_ok num32 dcs dcs_len dcs_one zd zd_ok Has h_len one_app one_num szH sz_dat built_rpair p_now p_next)
set_option linter.unusedVariables false
set_option linter.unusedSimpArgs false

theorem low_of {w : World} {p : Option Addr} {b : List Nat} (h : b ≠ [] → ∃ g o, p = some ⟨g, o, none⟩ ∧ w.rangeAt g o (u8s b)) : b ≠ [] → ∀ k, blk p = some k → k < w.heap.size := fun hne k hk => by
  obtain ⟨g, o, rfl, hr⟩ := h hne
  have : g = k := Option.some.inj hk
  subst this
  exact range_lt hr (by intro e; apply hne; simpa [u8s] using e)
set_option maxHeartbeats 4000000 in
set_option maxRecDepth 100000 in
theorem reads_long (b : List Nat) (p : Option Addr) (cap : Nat) (w : World) (hk : w.rangeAt 0 0 (u32s ks)) (hl : 1000 < b.length) :
    Calls Tryd.prog 4 #[.slice p b.length cap] w fun e w' => e = .returned (.bool true) ∧ Below w.heap.size w w' := by
  have hgt : decide ((1000 : Int) < (b.length : Int)) = true := decide_eq_true (by omega)
  have HK := Lib.hid hk
  clear hk hl
  go_enter Tryd.func4, Tryd.ntmps4
  go_wp2_with fail
  refine (awake_any w HK.out).mono ?_
  rintro e w3 ⟨rfl, hB3⟩
  go_wp2_with fail
  go_ret
  exact ⟨rfl, hB3⟩
set_option maxHeartbeats 4000000 in
set_option maxRecDepth 100000 in
theorem reads_short (b : List Nat) (p : Option Addr) (cap : Nat) (w : World) (hk : w.rangeAt 0 0 (u32s ks)) (hp : Rd w p b) (hcp : b.length ≤ cap) (hn : p = none → cap = 0) (hlt : AllLt 256 b) (hl : b.length ≤ 1000) :
    Calls Tryd.prog 4 #[.slice p b.length cap] w fun e w' => e = .returned (.bool true) ∧ Below w.heap.size w w' := by
  have hgt : decide ((1000 : Int) < (b.length : Int)) = false := decide_eq_false (by omega)
  have HK := Lib.hid hk; have HP := Lib.hid hp
  have hlow := low_of hp.at_
  have CR := Lib.hid (fun (w0 : World) (h : Rd w0 p b) => sread_any b p cap w0 h (fun e => ⟨by have := hn e; omega, hn e⟩) (by omega) hlt)
  have CQ := Lib.hid (fun (w0 : World) (h : Rd w0 p b) (hs : w.heap.size ≤ w0.heap.size) => rread_any b p cap w0 h hcp hn (fun hne k hk => Nat.lt_of_lt_of_le (hlow hne k hk) hs) hl hlt)
  have KU := Lib.hid (rdS_ok hlt)
  obtain ⟨r, hr⟩ : ∃ r, r = (rdS b).1 := ⟨_, rfl⟩
  obtain ⟨f, hf⟩ : ∃ f : Int, f = ((rdS b).2 : Int) := ⟨_, rfl⟩
  have HR := Lib.hid hr; have HF := Lib.hid hf
  rw [← hr] at KU
  clear hk hp hcp hn hlt hl hlow hr hf
  go_enter Tryd.func4, Tryd.ntmps4
  go_wp2_with fail
  refine (awake_any w HK.out).mono ?_
  rintro e w1 ⟨rfl, hB1⟩
  go_wp2_with fail
  refine (CR.out w1 (HP.out.below hB1)).mono ?_
  rintro e w2 ⟨rfl, hB2⟩
  rw [← HR.out, ← HF.out]
  have bel2 : Below w.heap.size w w2 := below_step hB1 hB1.size hB2
  clear hB1 hB2
  go_wp2_with (first
    | ((with_reducible refine at_slot 3 ?_); (refine arm_alloc (o := ⟨some 3, _, _, _, _, _⟩) rfl _ rfl (scs zs) z_sta ?_); intro G w3 Ge hw3 nw3)
    | ((with_reducible refine arm_store (o := ⟨none, _, _, _, _, _⟩) rfl _ _ _ rfl G 0 rfl (scs r) rfl _ _ hw3 (fitS KU.out) (scs_one _) (sz_sta KU.out) ?_); intro w4 hw4 ow4 sw4; have hG4 := hw4.congr (allS KU.out)))
  have eG := Ge.out; have z3 := nw3.size; have zb := bel2.size
  have bel4 : Below w.heap.size w w4 := below_only (below_step bel2 zb nw3.below) ow4 (by omega) (by omega)
  clear hw3 nw3 hw4 ow4 sw4 bel2 eG z3 zb Ge
  refine (CQ.out w4 (HP.out.below bel4) bel4.size).mono ?_
  rintro e w5 ⟨rfl, hB5⟩
  rw [← HR.out, ← HF.out]
  have bel5 : Below w.heap.size w w5 := below_step bel4 bel4.size hB5
  have hG5 := hG4.old hB5
  clear hG4 bel4 hB5
  go_wp2_with (first
    | ((with_reducible refine at_slot 5 ?_); (refine arm_alloc (o := ⟨some 5, _, _, _, _, _⟩) rfl _ rfl (scs zs) z_rsta ?_); intro T w6 Te hw6 nw6; have hG6 := hG5.old nw6.below)
    | ((with_reducible refine arm_store (o := ⟨none, _, _, _, _, _⟩) rfl _ _ _ rfl T 0 rfl (scs r) rfl _ _ hw6 (fitS KU.out) (scs_one _) (sz_rsta KU.out) ?_); intro w7 hw7 ow7 sw7; have hT7 := hw7.congr (allS KU.out); have hG7 := hG6.only ow7 (by have := hG5.lt; have := Te.out; omega)))
  have eT := Te.out; have z6 := nw6.size; have zb := bel5.size
  have bel7 : Below w.heap.size w w7 := below_only (below_step bel5 zb nw6.below) ow7 (by omega) (by omega)
  clear hw6 nw6 hw7 ow7 sw7 bel5 eT z6 zb Te hG5 hG6
  have HG := Lib.hid hG7; have HT := Lib.hid hT7
  clear hG7 hT7
  refine wp_region_quiet (C := fun w' => Below w7.heap.size w7 w') (by kernel_rfl) (by kernel_rfl) ((Below.refl _ _).drew) ?_
  rw [List.toList_toArray]
  refine q_value 22 rfl (.agg (scs r).toArray) (by kernel_rfl) (fun w' hC => run_op_load _ _ rfl G 0 rfl (scs r) ((Has.refl _).range (HG.out.old hC)) (sz_sta KU.out)) ?_
  simp only [Act.put, List.setIfInBounds_toArray, List.set_cons_zero, List.set_cons_succ]
  refine q_call 23 rfl (.agg (scs r).toArray) 7 #[.agg (scs r).toArray] (by kernel_rfl) (fun w' _ => run_op_call _ _ _ rfl _ (by simp only [List.map_toArray, List.map_cons, List.map_nil]; rfl) Tryd.func7 (by kernel_rfl) (by kernel_rfl) w') (fun w' hC => (own_any r w' KU.out).mono fun e w'' h => ⟨h.1, below_step hC hC.size h.2⟩) ?_
  simp only [Act.put, List.setIfInBounds_toArray, List.set_cons_zero, List.set_cons_succ]
  refine q_value 24 rfl (.agg (scs r).toArray) (by kernel_rfl) (fun w' hC => run_op_load _ _ rfl T 0 rfl (scs r) ((Has.refl _).range (HT.out.old hC)) (sz_rsta KU.out)) ?_
  simp only [Act.put, List.setIfInBounds_toArray, List.set_cons_zero, List.set_cons_succ]
  refine q_value 25 rfl (.bool true) (by kernel_rfl) (fun w' _ => run_op_eqlRS KU.out KU.out _ _ _ rfl rfl rfl true (by simp) w') ?_
  simp only [Act.put, List.setIfInBounds_toArray, List.set_cons_zero, List.set_cons_succ]
  refine q_value 26 rfl (.bool true) (by kernel_rfl) (fun w' _ => by kernel_rfl) ?_
  simp only [Act.put, List.setIfInBounds_toArray, List.set_cons_zero, List.set_cons_succ]
  refine q_value 27 rfl (.int .i64 f) (by kernel_rfl) (fun w' _ => by kernel_rfl) ?_
  simp only [Act.put, List.setIfInBounds_toArray, List.set_cons_zero, List.set_cons_succ]
  refine q_value 28 rfl (.int .i64 f) (by kernel_rfl) (fun w' _ => by kernel_rfl) ?_
  simp only [Act.put, List.setIfInBounds_toArray, List.set_cons_zero, List.set_cons_succ]
  refine q_value 29 rfl (.bool true) (by kernel_rfl) (fun w' _ => cmp_eql _ _ .i64 (by kernel_rfl) _ _ rfl .i64 f f rfl rfl true (decide_eq_true rfl) w') ?_
  simp only [Act.put, List.setIfInBounds_toArray, List.set_cons_zero, List.set_cons_succ]
  refine q_value 30 rfl (.bool true) (by kernel_rfl) (fun w' _ => by kernel_rfl) ?_
  simp only [Act.put, List.setIfInBounds_toArray, List.set_cons_zero, List.set_cons_succ]
  refine q_value 2 rfl (.bool true) (by kernel_rfl) (fun w' _ => by kernel_rfl) ?_
  simp only [Act.put, List.setIfInBounds_toArray, List.set_cons_zero, List.set_cons_succ]
  refine wpQuiet_nil ?_
  intro w8 hC
  have bel8 : Below w.heap.size w w8 := below_step bel7 bel7.size hC
  go_wp2_with fail
  go_ret
  exact ⟨rfl, bel8⟩
theorem stateReads_any (b : List Nat) (p : Option Addr) (cap : Nat) (w : World) (hp : Rd w p b) (hcp : b.length ≤ cap) (hn : p = none → cap = 0) (hlt : AllLt 256 b) (hk : w.rangeAt 0 0 (u32s ks)) :
    Calls Tryd.prog 4 #[.slice p b.length cap] w fun e w' => e = .returned (.bool true) ∧ Below w.heap.size w w' := by
  by_cases hl : b.length ≤ 1000
  · exact reads_short b p cap w hk hp hcp hn hlt hl
  · exact reads_long b p cap w hk (by omega)
end Go.Proofs.YtddnolppjlbibaaDoor.Sa
