/-
  The walk of layer 19's statement StoreKeeps, out of the contracts: it returns true, and changes nothing that was there. Over this seat's translation.
-/
import Derived.Test.YtnjmocobncncdaaDoorStoActs
import Derived.Deep.DeepCutAuto
namespace Go.Proofs.YtnjmocobncncdaaDoor.So
open Go.ChangeShapes Go.WideShapes Go.ChangeAt Go.RowKit Go.Proofs.YtnjmocobncncdaaDoor.Mem Go.Proofs.YtnjmocobncncdaaDoor.Bt Go.Proofs.YtnjmocobncncdaaDoor.Km
open Go.Proofs.YtnjmocobncncdaaDoor.Ep (H32 zh zh_ok Has h_len szH zH fitH allH one_app num32)
open Go.Proofs.YtnjmocobncncdaaDoor.Sl (Kind At bk)
open Go.Proofs.YtnjmocobncncdaaDoor.Sha (ks)
open Go.Proofs.YtnjmocobncncdaaDoor.Sa (Sta scs digS digS_ok zs zs_ok z_sta sz_sta scs_one fitS allS h_drw h_lngth)
open Go.Proofs.YtnjmocobncncdaaDoor.Od (Ky kcs keyN keyN_ok kcs_len kcs_one kcmp kval zk z_key sz_key fitK allK built_key compare_anyD)
set_option linter.unusedVariables false
set_option linter.unusedSimpArgs false

structure KeRel (w : World) (S r : Nat) (l : List Sact) (i : Value) (wr : World) : Prop where
  ex : ∃ k : Nat, k ≤ l.length ∧ i = .int .i64 (k : Int)
  st : ∃ F L pin, PAt wr F S r pin L ∧ From F w.heap.size
  bel : Below w.heap.size w wr
structure KpRel (w : World) (S r A H : Nat) (a : Sact) (wx : World) : Prop where
  st : ∃ F L pin, PAt wx F S r pin L ∧ From F w.heap.size ∧ ¬ F A ∧ ¬ F H
  ra : Row wx A 43 (sac a)
  rh : Row wx H 29 (u8s (digS a.s))
  bel : Below w.heap.size w wx
structure KwRel (w w1 : World) (L : List Sta) (i : Value) (wx : World) : Prop where
  ex : ∃ k : Nat, k ≤ L.length ∧ i = .int .i64 (k : Int)
  bel : Below w1.heap.size w1 wx
set_option maxHeartbeats 4000000 in
set_option maxRecDepth 100000 in
theorem storeKeeps_any (room : Int) (l : List Sact) (P : Option Addr) (pc : Nat) (w : World) (hs : Sl.At kA w P l) (hk : w.rangeAt 0 0 (u32s ks)) :
    Calls Tryd.prog 3 #[.int .i64 room, .slice P l.length pc] w fun e w' => e = .returned (.bool true) ∧ Below w.heap.size w w' := by
  have hk1 : 0 < w.heap.size := range_lt hk (by simp [u32s, ks])
  have HKW : Hid (∀ w', Below w.heap.size w w' → w'.rangeAt 0 0 (u32s ks)) := Lib.hid fun w' hb => range_block hk (hb.block _ hk1)
  have HS := Lib.hid hs
  have CA := Lib.hid (fun w0 h => awake_any w0 h)
  have CN := Lib.hid (fun w0 => snew_any room w0)
  have CH := Lib.hid (fun x kx w0 h => Sa.shash_any x w0 kx h)
  clear hs hk hk1
  go_enter Tryd.func3, Tryd.ntmps3
  have bel0 : Chg (fun _ => False) w w := Chg.refl _ _
  go_wp2_with fail
  refine (CA.out _ (HKW.out _ (bel0.below (fun k hk => hk.elim) (Nat.le_refl _)))).mono ?_
  rintro e y1 ⟨rfl, hB⟩
  have bel_2 : Chg (fun _ => False) w y1 := bel0.old hB
  clear bel0 hB
  go_wp2_with fail
  refine (CN.out _).mono ?_
  rintro e y0 ⟨hN, hB⟩
  have hsz0 := bel_2.size
  have bel_3 : Chg (fun _ => False) w y0 := bel_2.old hB
  clear bel_2 hB
  rcases hN with ⟨hr1, hr2, S, F0, rfl, hV, fr0⟩ | ⟨hN, rfl⟩
  · skip
    replace fr0 : From F0 w.heap.size := fun k hk => Nat.le_trans hsz0 (fr0 k hk)
    clear hsz0
    obtain ⟨r, rfl⟩ : ∃ r : Nat, room = (r : Int) := ⟨room.toNat, by omega⟩
    rw [Int.toNat_natCast] at hV
    have HR100 : Hid (r ≤ 100) := Lib.hid (by omega)
    clear hr1 hr2
    by_cases hbig : 40 < l.length
    · have hbd : decide (40 < (l.length : Int)) = true := decide_eq_true (by omega)
      go_wp2_with (first
        | ((with_reducible refine at_slot 37 ?_); (refine arm_want (.bool false) 37 rfl (by kernel_rfl) (run_op_eqlP' _ _ _ (by kernel_rfl) _ _ rfl (some _) rfl rfl false rfl _) ?_); try simp only [Act.put, List.setIfInBounds_toArray, List.set_cons_zero, List.set_cons_succ])
        | ((with_reducible refine at_slot 41 ?_); (refine arm_want (.bool true) 41 rfl (by kernel_rfl) (cmp_gtr _ _ _ _ rfl .i64 ((l.length : Int)) (40) rfl rfl true (hbd) _) ?_); try simp only [Act.put, List.setIfInBounds_toArray, List.set_cons_zero, List.set_cons_succ]))
      go_ret
      exact ⟨rfl, (bel_3.below (fun k hk => hk.elim) (Nat.le_refl _))⟩
    · have hbd : decide (40 < (l.length : Int)) = false := decide_eq_false (by omega)
      have HLL : Hid (l.length ≤ 40) := Lib.hid (by omega)
      clear hbig
      go_wp2_with (first
        | ((with_reducible refine at_slot 37 ?_); (refine arm_want (.bool false) 37 rfl (by kernel_rfl) (run_op_eqlP' _ _ _ (by kernel_rfl) _ _ rfl (some _) rfl rfl false rfl _) ?_); try simp only [Act.put, List.setIfInBounds_toArray, List.set_cons_zero, List.set_cons_succ])
        | ((with_reducible refine at_slot 41 ?_); (refine arm_want (.bool false) 41 rfl (by kernel_rfl) (cmp_gtr _ _ _ _ rfl .i64 ((l.length : Int)) (40) rfl rfl false (hbd) _) ?_); try simp only [Act.put, List.setIfInBounds_toArray, List.set_cons_zero, List.set_cons_succ]))
      try simp only [Act.put]
      have h0 : KeRel w S r l (.int .i64 0) y0 := ⟨⟨0, by omega, rfl⟩, ⟨F0, [], none, hV, fr0⟩, (bel_3.below (fun k hk => hk.elim) (Nat.le_refl _))⟩
      clear hV bel_3 fr0 CN CA
      go_loopw [45] (fun i wr => KeRel w S r l i wr) (fun i _ => l.length - (intOf i).toNat)
      case atStart => exact h0
      case round =>
        clear h0
        obtain ⟨⟨k, hk, rfl⟩, ⟨F, L, pin, hV, fr⟩, bel⟩ := hrel
        have bel0 : Chg (fun _ => False) w wr := Chg.of_below _ bel
        by_cases hlt : k < l.length
        · skip
          have hk40 : k < 40 := by have := HLL.out; omega
          obtain ⟨a, g, o, hx, kx, hP, hgl, hrx⟩ := (HS.out.below bel).get hlt
          subst hP
          have ik : (k : Int) < (l.length : Int) := by omega
          have KA := Lib.hid kx; have KH := Lib.hid (digS_ok a.s)
          have hrx2 : wr.rangeAt g (o + k * 364) (sac a) := hrx
          have hlV := Lib.hid hV.lies
          clear hx kx hrx bel
          go_wp2_with (first
            | ((with_reducible refine at_slot 47 ?_); (refine arm_want (.pointer (some ⟨g, o + k * 364, none⟩)) 47 rfl (by kernel_rfl) (Sl.run_op_index fA _ _ rfl g o _ _ rfl .i64 _ rfl k rfl hlt _) ?_); try simp only [Act.put, List.setIfInBounds_toArray, List.set_cons_zero, List.set_cons_succ])
            | ((with_reducible refine at_slot 48 ?_); (refine arm_load (o := ⟨some 48, _, _, _, _, _⟩) rfl _ _ rfl g (o + k * 364) rfl (sac a) (hrx2) (sz_sac KA.out) ?_); try simp only [Act.put, List.setIfInBounds_toArray, List.set_cons_zero, List.set_cons_succ])
            | ((with_reducible refine at_slot 8 ?_); (refine arm_alloc (o := ⟨some 8, _, _, _, _, _⟩) rfl _ rfl (sac zsa) z_sac ?_); intro A v101a Ae hAa nA; try simp only [Act.put, List.setIfInBounds_toArray, List.set_cons_zero, List.set_cons_succ])
            | ((with_reducible refine arm_store (o := ⟨none, _, _, _, _, _⟩) rfl _ _ _ rfl A 0 rfl (sac a) rfl _ _ hAa (fitSa KA.out) (sac_one _) (sz_sac KA.out) ?_); intro v101 hAb oA sA; try simp only [Act.put, List.setIfInBounds_toArray, List.set_cons_zero, List.set_cons_succ])
            | ((with_reducible refine at_slot 50 ?_); (refine arm_load (o := ⟨some 50, _, _, _, _, _⟩) rfl _ _ rfl A 1 rfl (scs a.s) ((sac_s a).range (hAb.congr (allSa KA.out))) (sz_sta KA.out.s) ?_); try simp only [Act.put, List.setIfInBounds_toArray, List.set_cons_zero, List.set_cons_succ]))
          have lA : wr.heap.size ≤ A := by have := Ae.out; omega
          have bA : Below wr.heap.size wr v101 := below_only nA.below oA lA nA.below.size
          have rrA : Row v101 A 43 (sac a) := hAb.congr (allSa KA.out)
          have geA : w.heap.size ≤ A := Nat.le_trans bel0.size lA
          have lAx := lA
          clear hAa hAb nA oA sA Ae lA
          have V_102 : PAt v101 F S r pin (L) := hV.old bA
          have bel_102 : Chg (fun _ => False) w v101 := bel0.old bA
          clear hV bel0 bA
          have nA : ¬ F A := fun q => by have := hlV.out A q; omega
          clear hlV hrx2
          refine (CH.out a.s KA.out.s _ (HKW.out _ (bel_102.below (fun k hk => hk.elim) (Nat.le_refl _)))).mono ?_
          rintro e y103 ⟨rfl, hB⟩
          have V_104 : PAt y103 F S r pin (L) := V_102.old hB
          have A_104 : Row y103 A 43 (sac a) := rrA.old hB
          have bel_104 : Chg (fun _ => False) w y103 := bel_102.old hB
          clear V_102 rrA bel_102 hB
          have lH := Lib.hid V_104.lies
          go_wp2_with (first
            | ((with_reducible refine at_slot 9 ?_); (refine arm_alloc (o := ⟨some 9, _, _, _, _, _⟩) rfl _ rfl (u8s zh) zH ?_); intro H v105a He hHa nH; try simp only [Act.put, List.setIfInBounds_toArray, List.set_cons_zero, List.set_cons_succ])
            | ((with_reducible refine arm_store (o := ⟨none, _, _, _, _, _⟩) rfl _ _ _ rfl H 0 rfl (u8s (digS a.s)) rfl _ _ hHa (fitH KH.out) (u8s_one _) (szH KH.out) ?_); intro v105 hHb oH sH; try simp only [Act.put, List.setIfInBounds_toArray, List.set_cons_zero, List.set_cons_succ]; refine fpause ?_; try simp only [Act.put, List.setIfInBounds_toArray, List.set_cons_zero, List.set_cons_succ]))
          have lH : y103.heap.size ≤ H := by have := He.out; omega
          have bH : Below y103.heap.size y103 v105 := below_only nH.below oH lH nH.below.size
          have rrH : Row v105 H 29 (u8s (digS a.s)) := hHb.congr (allH KH.out)
          have geH : w.heap.size ≤ H := Nat.le_trans bel_104.size lH
          have lHx := lH
          clear hHa hHb nH oH sH He lH
          have V_106 : PAt v105 F S r pin (L) := V_104.old bH
          have A_106 : Row v105 A 43 (sac a) := A_104.old bH
          have bel_106 : Chg (fun _ => False) w v105 := bel_104.old bH
          clear V_104 A_104 bel_104 bH
          refine fgo ?_
          have nH : ¬ F H := fun q => by have := lH.out H q; omega
          clear lH
          have X0 := Lib.hid (sac_d a)
          obtain ⟨d, hd⟩ : ∃ d, d = a.doo := ⟨_, rfl⟩
          rw [← hd] at X0
          clear hd
          have hc0 := A_106.cell X0.out
          go_upto_if 54 with (first | ((with_reducible refine at_slot 54 ?_); (refine arm_want (.bool (decide (d = 1))) 54 rfl (by kernel_rfl) (cmp_eql _ _ .i64 (by kernel_rfl) _ _ rfl .i64 (d) (1) rfl rfl (decide (d = 1)) (rfl) _) ?_)) | ((with_reducible refine at_slot 53 ?_); (refine arm_want (.int .i64 d) 53 rfl (by kernel_rfl) (run_op_load1 _ _ rfl (.int .i64) (by kernel_rfl) rfl ⟨A, 0, none⟩ rfl (.int .i64 d) hc0) ?_)))
          clear hc0
          try simp only [Act.put, List.setIfInBounds_toArray, List.set_cons_zero, List.set_cons_succ]
          go_cut [] (fun wx => KpRel w S r A H a wx)
          case first => as_aux_lemma =>
            by_cases hd : d = 1
            · skip
              rw [decide_eq_true hd]
              clear hd
              go_wp2_with (first
                | ((with_reducible refine at_slot 56 ?_); (refine arm_load (o := ⟨some 56, _, _, _, _, _⟩) rfl _ _ rfl H 0 rfl (u8s (digS a.s)) ((Has.refl _).range rrH) (szH KH.out) ?_); try simp only [Act.put, List.setIfInBounds_toArray, List.set_cons_zero, List.set_cons_succ]))
              refine (pin_to KH.out V_106 rfl rfl).mono ?_
              rintro e yP107 ⟨rfl, ⟨F2, hV2, hG2⟩, hc⟩
              have mA := notF_grew nA hG2 A_106.lt
              have mH := notF_grew nH hG2 rrH.lt
              have fr2 := hG2.from fr bel_106.size
              have V_108 : PAt yP107 F2 S r (if hasB (digS a.s) L = true then some (digS a.s) else pin) (L) := hV2
              have A_108 : Row yP107 A 43 (sac a) := A_106.chg hc nA
              have H_108 : Row yP107 H 29 (u8s (digS a.s)) := rrH.chg hc nH
              have bel_108 : Chg (fun _ => False) w yP107 := bel_106.fresh hc fr
              clear V_106 A_106 rrH bel_106 hc
              clear nA
              have nA := mA
              clear mA
              clear nH
              have nH := mH
              clear mH
              clear hG2
              go_wp2_with fail
              go_meet
              exact ⟨⟨F2, L, _, V_108, fr2, nA, nH⟩, A_108, H_108, (bel_108.below (fun k hk => hk.elim) (Nat.le_refl _))⟩
            · skip
              rw [decide_eq_false hd]
              clear hd
              go_wp2_with fail
              go_meet
              exact ⟨⟨F, L, pin, V_106, fr, nA, nH⟩, A_106, rrH, (bel_106.below (fun k hk => hk.elim) (Nat.le_refl _))⟩
          case rest =>
            clear V_106 A_106 rrH bel_106 nA nH fr
            obtain ⟨⟨F, L, pin, hV, fr, nA, nH⟩, hRA, hRH, hbl⟩ := hcut
            have bel0 : Chg (fun _ => False) w wc := Chg.of_below _ hbl
            clear hbl
            generalize wc = W200 at hV hRA hRH bel0 ⊢
            have hc0 := hRA.cell X0.out
            go_upto_if 60 with (first | ((with_reducible refine at_slot 60 ?_); (refine arm_want (.bool (decide (d = 3))) 60 rfl (by kernel_rfl) (cmp_eql _ _ .i64 (by kernel_rfl) _ _ rfl .i64 (d) (3) rfl rfl (decide (d = 3)) (rfl) _) ?_)) | ((with_reducible refine at_slot 59 ?_); (refine arm_want (.int .i64 d) 59 rfl (by kernel_rfl) (run_op_load1 _ _ rfl (.int .i64) (by kernel_rfl) rfl ⟨A, 0, none⟩ rfl (.int .i64 d) hc0) ?_)))
            clear hc0
            try simp only [Act.put, List.setIfInBounds_toArray, List.set_cons_zero, List.set_cons_succ]
            go_cut [] (fun wx => KpRel w S r A H a wx)
            case first => as_aux_lemma =>
              by_cases hd : d = 3
              · skip
                rw [decide_eq_true hd]
                clear hd
                have hko := hV.ok
                have HKF := Lib.hid (keep_facts hko KA.out.s hV.states)
                clear hko
                obtain ⟨q, hq⟩ : ∃ q, q = putL r (some (digS a.s)) a.s L := ⟨_, rfl⟩
                rw [← hq] at HKF
                obtain ⟨M, gg⟩ := q
                have HQ := Lib.hid hq
                clear hq
                go_wp2_with (first
                  | ((with_reducible refine at_slot 64 ?_); (refine arm_load (o := ⟨some 64, _, _, _, _, _⟩) rfl _ _ rfl A 1 rfl (scs a.s) ((sac_s a).range hRA) (sz_sta KA.out.s) ?_); try simp only [Act.put, List.setIfInBounds_toArray, List.set_cons_zero, List.set_cons_succ]))
                cases gg with
                | none =>
                  have HIN := Lib.hid HKF.out.1
                  refine (keep_to (d := zh) (v := false) a.s hV KA.out.s HR100.out (HKW.out _ (bel0.below (fun k hk => hk.elim) (Nat.le_refl _))) HQ.out.symm rfl rfl).mono ?_
                  rintro e yP201 ⟨rfl, ⟨F2, hV2, hG2⟩, hc⟩
                  have mA := notF_grew nA hG2 hRA.lt
                  have mH := notF_grew nH hG2 hRH.lt
                  have fr2 := hG2.from fr bel0.size
                  have V_202 : PAt yP201 F2 S r (some (digS a.s)) (M) := hV2
                  have A_202 : Row yP201 A 43 (sac a) := hRA.chg hc nA
                  have H_202 : Row yP201 H 29 (u8s (digS a.s)) := hRH.chg hc nH
                  have bel_202 : Chg (fun _ => False) w yP201 := bel0.fresh hc fr
                  clear hV hRA hRH bel0 hc
                  clear nA
                  have nA := mA
                  clear mA
                  clear nH
                  have nH := mH
                  clear mH
                  clear hG2
                  have l1 := Lib.hid V_202.lies
                  go_wp2_with (first
                    | ((with_reducible refine at_slot 10 ?_); (refine arm_alloc (o := ⟨some 10, _, _, _, _, _⟩) rfl _ rfl (u8s zh) zH ?_); intro G v203a Ge hGa nG; try simp only [Act.put, List.setIfInBounds_toArray, List.set_cons_zero, List.set_cons_succ])
                    | ((with_reducible refine arm_store (o := ⟨none, _, _, _, _, _⟩) rfl _ _ _ rfl G 0 rfl (u8s zh) rfl _ _ hGa (fitH zh_ok) (u8s_one _) (szH zh_ok) ?_); intro v203 hGb oG sG; try simp only [Act.put, List.setIfInBounds_toArray, List.set_cons_zero, List.set_cons_succ]))
                  have lG : yP201.heap.size ≤ G := by have := Ge.out; omega
                  have bG : Below yP201.heap.size yP201 v203 := below_only nG.below oG lG nG.below.size
                  have rrG : Row v203 G 29 (u8s zh) := hGb.congr (allH zh_ok)
                  have geG : w.heap.size ≤ G := Nat.le_trans bel_202.size lG
                  have lGx := lG
                  clear hGa hGb nG oG sG Ge lG
                  have V_204 : PAt v203 F2 S r (some (digS a.s)) (M) := V_202.old bG
                  have A_204 : Row v203 A 43 (sac a) := A_202.old bG
                  have H_204 : Row v203 H 29 (u8s (digS a.s)) := H_202.old bG
                  have bel_204 : Chg (fun _ => False) w v203 := bel_202.old bG
                  clear V_202 A_202 H_202 bel_202 bG
                  have nG : ¬ F2 G := fun q => by have := l1.out G q; omega
                  clear l1
                  refine (pinned_to (h := digS a.s) (v := true) V_204 rfl rfl).mono ?_
                  rintro e y205 ⟨rfl, hB⟩
                  have V_206 : PAt y205 F2 S r (some (digS a.s)) (M) := V_204.old hB
                  have A_206 : Row y205 A 43 (sac a) := A_204.old hB
                  have H_206 : Row y205 H 29 (u8s (digS a.s)) := H_204.old hB
                  have G_206 : Row y205 G 29 (u8s zh) := rrG.old hB
                  have bel_206 : Chg (fun _ => False) w y205 := bel_204.old hB
                  clear V_204 A_204 H_204 rrG bel_204 hB
                  have l2 := Lib.hid V_206.lies
                  go_wp2_with (first
                    | ((with_reducible refine at_slot 12 ?_); (refine arm_alloc (o := ⟨some 12, _, _, _, _, _⟩) rfl _ rfl (u8s zh) zH ?_); intro Q v207a Qe hQa nQ; try simp only [Act.put, List.setIfInBounds_toArray, List.set_cons_zero, List.set_cons_succ])
                    | ((with_reducible refine arm_store (o := ⟨none, _, _, _, _, _⟩) rfl _ _ _ rfl Q 0 rfl (u8s (digS a.s)) rfl _ _ hQa (fitH KH.out) (u8s_one _) (szH KH.out) ?_); intro v207 hQb oQ sQ; try simp only [Act.put, List.setIfInBounds_toArray, List.set_cons_zero, List.set_cons_succ])
                    | ((with_reducible refine at_slot 75 ?_); (refine arm_load (o := ⟨some 75, _, _, _, _, _⟩) rfl _ _ rfl H 0 rfl (u8s (digS a.s)) ((Has.refl _).range ((H_206.old nQ.below).only oQ (by have := Qe.out; have := H_206.lt; omega))) (szH KH.out) ?_); try simp only [Act.put, List.setIfInBounds_toArray, List.set_cons_zero, List.set_cons_succ]))
                  have lQ : y205.heap.size ≤ Q := by have := Qe.out; omega
                  have bQ : Below y205.heap.size y205 v207 := below_only nQ.below oQ lQ nQ.below.size
                  have rrQ : Row v207 Q 29 (u8s (digS a.s)) := hQb.congr (allH KH.out)
                  have geQ : w.heap.size ≤ Q := Nat.le_trans bel_206.size lQ
                  have lQx := lQ
                  clear hQa hQb nQ oQ sQ Qe lQ
                  have V_208 : PAt v207 F2 S r (some (digS a.s)) (M) := V_206.old bQ
                  have A_208 : Row v207 A 43 (sac a) := A_206.old bQ
                  have H_208 : Row v207 H 29 (u8s (digS a.s)) := H_206.old bQ
                  have G_208 : Row v207 G 29 (u8s zh) := G_206.old bQ
                  have bel_208 : Chg (fun _ => False) w v207 := bel_206.old bQ
                  clear V_206 A_206 H_206 G_206 bel_206 bQ
                  have nQ : ¬ F2 Q := fun q => by have := l2.out Q q; omega
                  clear l2
                  obtain ⟨xg, hxg⟩ : ∃ xg, xg = (getS M (digS a.s)).getD zs := ⟨_, rfl⟩
                  have KXG : Hid (xg.Ok) := Lib.hid (hxg ▸ get_ok V_208.states)
                  refine (get_to (x := xg) (v := true) KH.out V_208 hxg.symm HIN.out).mono ?_
                  rintro e y209 ⟨rfl, hB⟩
                  have V_210 : PAt y209 F2 S r (some (digS a.s)) (M) := V_208.old hB
                  have A_210 : Row y209 A 43 (sac a) := A_208.old hB
                  have H_210 : Row y209 H 29 (u8s (digS a.s)) := H_208.old hB
                  have G_210 : Row y209 G 29 (u8s zh) := G_208.old hB
                  have Q_210 : Row y209 Q 29 (u8s (digS a.s)) := rrQ.old hB
                  have bel_210 : Chg (fun _ => False) w y209 := bel_208.old hB
                  clear V_208 A_208 H_208 G_208 rrQ bel_208 hB
                  clear hxg
                  have l3 := Lib.hid V_210.lies
                  go_wp2_with (first
                    | ((with_reducible refine at_slot 14 ?_); (refine arm_alloc (o := ⟨some 14, _, _, _, _, _⟩) rfl _ rfl (scs zs) z_sta ?_); intro T v211a Te hTa nT; try simp only [Act.put, List.setIfInBounds_toArray, List.set_cons_zero, List.set_cons_succ])
                    | ((with_reducible refine arm_store (o := ⟨none, _, _, _, _, _⟩) rfl _ _ _ rfl T 0 rfl (scs xg) rfl _ _ hTa (fitS KXG.out) (scs_one _) (sz_sta KXG.out) ?_); intro v211 hTb oT sT; try simp only [Act.put, List.setIfInBounds_toArray, List.set_cons_zero, List.set_cons_succ]; refine fpause ?_; try simp only [Act.put, List.setIfInBounds_toArray, List.set_cons_zero, List.set_cons_succ]))
                  have lT : y209.heap.size ≤ T := by have := Te.out; omega
                  have bT : Below y209.heap.size y209 v211 := below_only nT.below oT lT nT.below.size
                  have rrT : Row v211 T 41 (scs xg) := hTb.congr (allS KXG.out)
                  have geT : w.heap.size ≤ T := Nat.le_trans bel_210.size lT
                  have lTx := lT
                  clear hTa hTb nT oT sT Te lT
                  have V_212 : PAt v211 F2 S r (some (digS a.s)) (M) := V_210.old bT
                  have A_212 : Row v211 A 43 (sac a) := A_210.old bT
                  have H_212 : Row v211 H 29 (u8s (digS a.s)) := H_210.old bT
                  have G_212 : Row v211 G 29 (u8s zh) := G_210.old bT
                  have Q_212 : Row v211 Q 29 (u8s (digS a.s)) := Q_210.old bT
                  have bel_212 : Chg (fun _ => False) w v211 := bel_210.old bT
                  clear V_210 A_210 H_210 G_210 Q_210 bel_210 bT
                  refine fgo ?_
                  have nT : ¬ F2 T := fun q => by have := l3.out T q; omega
                  clear l3
                  go_wp2_with (first
                    | ((with_reducible refine at_slot 82 ?_); (refine arm_want (.agg (u8s (digS a.s)).toArray) 82 rfl (by kernel_rfl) (run_op_load _ _ rfl Q 0 rfl (u8s (digS a.s)) ((Has.refl _).range Q_212) (szH KH.out)) ?_); try simp only [Act.put, List.setIfInBounds_toArray, List.set_cons_zero, List.set_cons_succ])
                    | ((with_reducible refine at_slot 83 ?_); (refine arm_want (.agg (u8s (digS a.s)).toArray) 83 rfl (by kernel_rfl) (run_op_load _ _ rfl H 0 rfl (u8s (digS a.s)) ((Has.refl _).range H_212) (szH KH.out)) ?_); try simp only [Act.put, List.setIfInBounds_toArray, List.set_cons_zero, List.set_cons_succ])
                    | ((with_reducible refine at_slot 84 ?_); (refine arm_want (.bool false) 84 rfl (by kernel_rfl) (run_op_neqW _ _ _ rfl (digS a.s) (digS a.s) KH.out KH.out rfl rfl false (by rw [decide_eq_true rfl]; rfl) _) ?_); try simp only [Act.put, List.setIfInBounds_toArray, List.set_cons_zero, List.set_cons_succ]))
                  go_meet
                  exact ⟨⟨F2, M, _, V_212, fr2, nA, nH⟩, A_212, H_212, (bel_212.below (fun k hk => hk.elim) (Nat.le_refl _))⟩
                | some y =>
                  have KY := Lib.hid (digS_ok y)
                  have HNE := Lib.hid (decide_eq_false (HKF.out.2 y rfl))
                  have HIN := Lib.hid HKF.out.1
                  refine (keep_to (d := (digS y)) (v := true) a.s hV KA.out.s HR100.out (HKW.out _ (bel0.below (fun k hk => hk.elim) (Nat.le_refl _))) HQ.out.symm rfl rfl).mono ?_
                  rintro e yP201 ⟨rfl, ⟨F2, hV2, hG2⟩, hc⟩
                  have mA := notF_grew nA hG2 hRA.lt
                  have mH := notF_grew nH hG2 hRH.lt
                  have fr2 := hG2.from fr bel0.size
                  have V_202 : PAt yP201 F2 S r (some (digS a.s)) (M) := hV2
                  have A_202 : Row yP201 A 43 (sac a) := hRA.chg hc nA
                  have H_202 : Row yP201 H 29 (u8s (digS a.s)) := hRH.chg hc nH
                  have bel_202 : Chg (fun _ => False) w yP201 := bel0.fresh hc fr
                  clear hV hRA hRH bel0 hc
                  clear nA
                  have nA := mA
                  clear mA
                  clear nH
                  have nH := mH
                  clear mH
                  clear hG2
                  have l1 := Lib.hid V_202.lies
                  go_wp2_with (first
                    | ((with_reducible refine at_slot 10 ?_); (refine arm_alloc (o := ⟨some 10, _, _, _, _, _⟩) rfl _ rfl (u8s zh) zH ?_); intro G v203a Ge hGa nG; try simp only [Act.put, List.setIfInBounds_toArray, List.set_cons_zero, List.set_cons_succ])
                    | ((with_reducible refine arm_store (o := ⟨none, _, _, _, _, _⟩) rfl _ _ _ rfl G 0 rfl (u8s (digS y)) rfl _ _ hGa (fitH KY.out) (u8s_one _) (szH KY.out) ?_); intro v203 hGb oG sG; try simp only [Act.put, List.setIfInBounds_toArray, List.set_cons_zero, List.set_cons_succ]))
                  have lG : yP201.heap.size ≤ G := by have := Ge.out; omega
                  have bG : Below yP201.heap.size yP201 v203 := below_only nG.below oG lG nG.below.size
                  have rrG : Row v203 G 29 (u8s (digS y)) := hGb.congr (allH KY.out)
                  have geG : w.heap.size ≤ G := Nat.le_trans bel_202.size lG
                  have lGx := lG
                  clear hGa hGb nG oG sG Ge lG
                  have V_204 : PAt v203 F2 S r (some (digS a.s)) (M) := V_202.old bG
                  have A_204 : Row v203 A 43 (sac a) := A_202.old bG
                  have H_204 : Row v203 H 29 (u8s (digS a.s)) := H_202.old bG
                  have bel_204 : Chg (fun _ => False) w v203 := bel_202.old bG
                  clear V_202 A_202 H_202 bel_202 bG
                  have nG : ¬ F2 G := fun q => by have := l1.out G q; omega
                  clear l1
                  refine (pinned_to (h := digS a.s) (v := true) V_204 rfl rfl).mono ?_
                  rintro e y205 ⟨rfl, hB⟩
                  have V_206 : PAt y205 F2 S r (some (digS a.s)) (M) := V_204.old hB
                  have A_206 : Row y205 A 43 (sac a) := A_204.old hB
                  have H_206 : Row y205 H 29 (u8s (digS a.s)) := H_204.old hB
                  have G_206 : Row y205 G 29 (u8s (digS y)) := rrG.old hB
                  have bel_206 : Chg (fun _ => False) w y205 := bel_204.old hB
                  clear V_204 A_204 H_204 rrG bel_204 hB
                  have l2 := Lib.hid V_206.lies
                  go_wp2_with (first
                    | ((with_reducible refine at_slot 12 ?_); (refine arm_alloc (o := ⟨some 12, _, _, _, _, _⟩) rfl _ rfl (u8s zh) zH ?_); intro Q v207a Qe hQa nQ; try simp only [Act.put, List.setIfInBounds_toArray, List.set_cons_zero, List.set_cons_succ])
                    | ((with_reducible refine arm_store (o := ⟨none, _, _, _, _, _⟩) rfl _ _ _ rfl Q 0 rfl (u8s (digS a.s)) rfl _ _ hQa (fitH KH.out) (u8s_one _) (szH KH.out) ?_); intro v207 hQb oQ sQ; try simp only [Act.put, List.setIfInBounds_toArray, List.set_cons_zero, List.set_cons_succ])
                    | ((with_reducible refine at_slot 75 ?_); (refine arm_load (o := ⟨some 75, _, _, _, _, _⟩) rfl _ _ rfl H 0 rfl (u8s (digS a.s)) ((Has.refl _).range ((H_206.old nQ.below).only oQ (by have := Qe.out; have := H_206.lt; omega))) (szH KH.out) ?_); try simp only [Act.put, List.setIfInBounds_toArray, List.set_cons_zero, List.set_cons_succ]))
                  have lQ : y205.heap.size ≤ Q := by have := Qe.out; omega
                  have bQ : Below y205.heap.size y205 v207 := below_only nQ.below oQ lQ nQ.below.size
                  have rrQ : Row v207 Q 29 (u8s (digS a.s)) := hQb.congr (allH KH.out)
                  have geQ : w.heap.size ≤ Q := Nat.le_trans bel_206.size lQ
                  have lQx := lQ
                  clear hQa hQb nQ oQ sQ Qe lQ
                  have V_208 : PAt v207 F2 S r (some (digS a.s)) (M) := V_206.old bQ
                  have A_208 : Row v207 A 43 (sac a) := A_206.old bQ
                  have H_208 : Row v207 H 29 (u8s (digS a.s)) := H_206.old bQ
                  have G_208 : Row v207 G 29 (u8s (digS y)) := G_206.old bQ
                  have bel_208 : Chg (fun _ => False) w v207 := bel_206.old bQ
                  clear V_206 A_206 H_206 G_206 bel_206 bQ
                  have nQ : ¬ F2 Q := fun q => by have := l2.out Q q; omega
                  clear l2
                  obtain ⟨xg, hxg⟩ : ∃ xg, xg = (getS M (digS a.s)).getD zs := ⟨_, rfl⟩
                  have KXG : Hid (xg.Ok) := Lib.hid (hxg ▸ get_ok V_208.states)
                  refine (get_to (x := xg) (v := true) KH.out V_208 hxg.symm HIN.out).mono ?_
                  rintro e y209 ⟨rfl, hB⟩
                  have V_210 : PAt y209 F2 S r (some (digS a.s)) (M) := V_208.old hB
                  have A_210 : Row y209 A 43 (sac a) := A_208.old hB
                  have H_210 : Row y209 H 29 (u8s (digS a.s)) := H_208.old hB
                  have G_210 : Row y209 G 29 (u8s (digS y)) := G_208.old hB
                  have Q_210 : Row y209 Q 29 (u8s (digS a.s)) := rrQ.old hB
                  have bel_210 : Chg (fun _ => False) w y209 := bel_208.old hB
                  clear V_208 A_208 H_208 G_208 rrQ bel_208 hB
                  clear hxg
                  have l3 := Lib.hid V_210.lies
                  go_wp2_with (first
                    | ((with_reducible refine at_slot 14 ?_); (refine arm_alloc (o := ⟨some 14, _, _, _, _, _⟩) rfl _ rfl (scs zs) z_sta ?_); intro T v211a Te hTa nT; try simp only [Act.put, List.setIfInBounds_toArray, List.set_cons_zero, List.set_cons_succ])
                    | ((with_reducible refine arm_store (o := ⟨none, _, _, _, _, _⟩) rfl _ _ _ rfl T 0 rfl (scs xg) rfl _ _ hTa (fitS KXG.out) (scs_one _) (sz_sta KXG.out) ?_); intro v211 hTb oT sT; try simp only [Act.put, List.setIfInBounds_toArray, List.set_cons_zero, List.set_cons_succ]; refine fpause ?_; try simp only [Act.put, List.setIfInBounds_toArray, List.set_cons_zero, List.set_cons_succ]))
                  have lT : y209.heap.size ≤ T := by have := Te.out; omega
                  have bT : Below y209.heap.size y209 v211 := below_only nT.below oT lT nT.below.size
                  have rrT : Row v211 T 41 (scs xg) := hTb.congr (allS KXG.out)
                  have geT : w.heap.size ≤ T := Nat.le_trans bel_210.size lT
                  have lTx := lT
                  clear hTa hTb nT oT sT Te lT
                  have V_212 : PAt v211 F2 S r (some (digS a.s)) (M) := V_210.old bT
                  have A_212 : Row v211 A 43 (sac a) := A_210.old bT
                  have H_212 : Row v211 H 29 (u8s (digS a.s)) := H_210.old bT
                  have G_212 : Row v211 G 29 (u8s (digS y)) := G_210.old bT
                  have Q_212 : Row v211 Q 29 (u8s (digS a.s)) := Q_210.old bT
                  have bel_212 : Chg (fun _ => False) w v211 := bel_210.old bT
                  clear V_210 A_210 H_210 G_210 Q_210 bel_210 bT
                  refine fgo ?_
                  have nT : ¬ F2 T := fun q => by have := l3.out T q; omega
                  clear l3
                  go_wp2_with (first
                    | ((with_reducible refine at_slot 82 ?_); (refine arm_want (.agg (u8s (digS a.s)).toArray) 82 rfl (by kernel_rfl) (run_op_load _ _ rfl Q 0 rfl (u8s (digS a.s)) ((Has.refl _).range Q_212) (szH KH.out)) ?_); try simp only [Act.put, List.setIfInBounds_toArray, List.set_cons_zero, List.set_cons_succ])
                    | ((with_reducible refine at_slot 83 ?_); (refine arm_want (.agg (u8s (digS a.s)).toArray) 83 rfl (by kernel_rfl) (run_op_load _ _ rfl H 0 rfl (u8s (digS a.s)) ((Has.refl _).range H_212) (szH KH.out)) ?_); try simp only [Act.put, List.setIfInBounds_toArray, List.set_cons_zero, List.set_cons_succ])
                    | ((with_reducible refine at_slot 84 ?_); (refine arm_want (.bool false) 84 rfl (by kernel_rfl) (run_op_neqW _ _ _ rfl (digS a.s) (digS a.s) KH.out KH.out rfl rfl false (by rw [decide_eq_true rfl]; rfl) _) ?_); try simp only [Act.put, List.setIfInBounds_toArray, List.set_cons_zero, List.set_cons_succ])
                    | ((with_reducible refine at_slot 93 ?_); (refine arm_want (.agg (u8s (digS y)).toArray) 93 rfl (by kernel_rfl) (run_op_load _ _ rfl G 0 rfl (u8s (digS y)) ((Has.refl _).range G_212) (szH KY.out)) ?_); try simp only [Act.put, List.setIfInBounds_toArray, List.set_cons_zero, List.set_cons_succ])
                    | ((with_reducible refine at_slot 94 ?_); (refine arm_want (.agg (u8s (digS a.s)).toArray) 94 rfl (by kernel_rfl) (run_op_load _ _ rfl H 0 rfl (u8s (digS a.s)) ((Has.refl _).range H_212) (szH KH.out)) ?_); try simp only [Act.put, List.setIfInBounds_toArray, List.set_cons_zero, List.set_cons_succ])
                    | ((with_reducible refine at_slot 95 ?_); (refine arm_want (.bool false) 95 rfl (by kernel_rfl) (run_op_eqlW _ _ _ rfl (digS y) (digS a.s) KY.out KH.out rfl rfl false (HNE.out) _) ?_); try simp only [Act.put, List.setIfInBounds_toArray, List.set_cons_zero, List.set_cons_succ]))
                  go_meet
                  exact ⟨⟨F2, M, _, V_212, fr2, nA, nH⟩, A_212, H_212, (bel_212.below (fun k hk => hk.elim) (Nat.le_refl _))⟩
              · skip
                rw [decide_eq_false hd]
                clear hd
                go_wp2_with fail
                go_meet
                exact ⟨⟨F, L, pin, hV, fr, nA, nH⟩, hRA, hRH, (bel0.below (fun k hk => hk.elim) (Nat.le_refl _))⟩
            case rest =>
              clear hV hRA hRH bel0 nA nH fr
              obtain ⟨⟨F, L, pin, hV, fr, nA, nH⟩, hRA, hRH, hbl⟩ := hcut
              have bel0 : Chg (fun _ => False) w wc := Chg.of_below _ hbl
              clear hbl
              generalize wc = W300 at hV hRA hRH bel0 ⊢
              have hc0 := hRA.cell X0.out
              go_upto_if 100 with (first | ((with_reducible refine at_slot 100 ?_); (refine arm_want (.bool (decide (d = 0))) 100 rfl (by kernel_rfl) (cmp_eql _ _ .i64 (by kernel_rfl) _ _ rfl .i64 (d) (0) rfl rfl (decide (d = 0)) (rfl) _) ?_)) | ((with_reducible refine at_slot 99 ?_); (refine arm_want (.int .i64 d) 99 rfl (by kernel_rfl) (run_op_load1 _ _ rfl (.int .i64) (by kernel_rfl) rfl ⟨A, 0, none⟩ rfl (.int .i64 d) hc0) ?_)))
              clear hc0
              try simp only [Act.put, List.setIfInBounds_toArray, List.set_cons_zero, List.set_cons_succ]
              go_cut [] (fun wx => KpRel w S r A H a wx)
              case first => as_aux_lemma =>
                by_cases hd : d = 0
                · skip
                  rw [decide_eq_true hd]
                  clear hd
                  have HPF := Lib.hid (put_facts hV.ok KA.out.s hV.states)
                  obtain ⟨q, hq⟩ : ∃ q, q = putL r pin a.s L := ⟨_, rfl⟩
                  rw [← hq] at HPF
                  obtain ⟨M, gg⟩ := q
                  have HQ := Lib.hid hq
                  clear hq
                  go_wp2_with (first
                    | ((with_reducible refine at_slot 104 ?_); (refine arm_load (o := ⟨some 104, _, _, _, _, _⟩) rfl _ _ rfl A 1 rfl (scs a.s) ((sac_s a).range hRA) (sz_sta KA.out.s) ?_); try simp only [Act.put, List.setIfInBounds_toArray, List.set_cons_zero, List.set_cons_succ]))
                  cases gg with
                  | none =>
                    have HIN := Lib.hid (HPF.out.1 rfl)
                    obtain ⟨vz, hvz⟩ : ∃ vz, vz = hasB zh M := ⟨_, rfl⟩
                    refine (put_to (d := zh) (v := false) a.s hV KA.out.s HR100.out (HKW.out _ (bel0.below (fun k hk => hk.elim) (Nat.le_refl _))) HQ.out.symm rfl rfl).mono ?_
                    rintro e yP301 ⟨rfl, ⟨F2, hV2, hG2⟩, hc⟩
                    have mA := notF_grew nA hG2 hRA.lt
                    have mH := notF_grew nH hG2 hRH.lt
                    have fr2 := hG2.from fr bel0.size
                    have V_302 : PAt yP301 F2 S r pin (M) := hV2
                    have A_302 : Row yP301 A 43 (sac a) := hRA.chg hc nA
                    have H_302 : Row yP301 H 29 (u8s (digS a.s)) := hRH.chg hc nH
                    have bel_302 : Chg (fun _ => False) w yP301 := bel0.fresh hc fr
                    clear hV hRA hRH bel0 hc
                    clear nA
                    have nA := mA
                    clear mA
                    clear nH
                    have nH := mH
                    clear mH
                    clear hG2
                    have l1 := Lib.hid V_302.lies
                    go_wp2_with (first
                      | ((with_reducible refine at_slot 16 ?_); (refine arm_alloc (o := ⟨some 16, _, _, _, _, _⟩) rfl _ rfl (u8s zh) zH ?_); intro G v303a Ge hGa nG; try simp only [Act.put, List.setIfInBounds_toArray, List.set_cons_zero, List.set_cons_succ])
                      | ((with_reducible refine arm_store (o := ⟨none, _, _, _, _, _⟩) rfl _ _ _ rfl G 0 rfl (u8s zh) rfl _ _ hGa (fitH zh_ok) (u8s_one _) (szH zh_ok) ?_); intro v303 hGb oG sG; try simp only [Act.put, List.setIfInBounds_toArray, List.set_cons_zero, List.set_cons_succ]))
                    have lG : yP301.heap.size ≤ G := by have := Ge.out; omega
                    have bG : Below yP301.heap.size yP301 v303 := below_only nG.below oG lG nG.below.size
                    have rrG : Row v303 G 29 (u8s zh) := hGb.congr (allH zh_ok)
                    have geG : w.heap.size ≤ G := Nat.le_trans bel_302.size lG
                    have lGx := lG
                    clear hGa hGb nG oG sG Ge lG
                    have V_304 : PAt v303 F2 S r pin (M) := V_302.old bG
                    have A_304 : Row v303 A 43 (sac a) := A_302.old bG
                    have H_304 : Row v303 H 29 (u8s (digS a.s)) := H_302.old bG
                    have bel_304 : Chg (fun _ => False) w v303 := bel_302.old bG
                    clear V_302 A_302 H_302 bel_302 bG
                    have nG : ¬ F2 G := fun q => by have := l1.out G q; omega
                    clear l1
                    refine (pkeys_any V_304 HR100.out).mono ?_
                    rintro e y305 ⟨⟨kp, kc, rfl, hKO⟩, hB⟩
                    have hKO := hKO.low (Nat.zero_le _)
                    have V_306 : PAt y305 F2 S r pin (M) := V_304.old hB
                    have A_306 : Row y305 A 43 (sac a) := A_304.old hB
                    have H_306 : Row y305 H 29 (u8s (digS a.s)) := H_304.old hB
                    have G_306 : Row y305 G 29 (u8s zh) := rrG.old hB
                    have bel_306 : Chg (fun _ => False) w y305 := bel_304.old hB
                    clear V_304 A_304 H_304 rrG bel_304 hB
                    go_wp2_with (first
                      | ((with_reducible refine at_slot 112 ?_); (refine arm_load (o := ⟨some 112, _, _, _, _, _⟩) rfl _ _ rfl G 0 rfl (u8s zh) ((Has.refl _).range G_306) (szH zh_ok) ?_); try simp only [Act.put, List.setIfInBounds_toArray, List.set_cons_zero, List.set_cons_succ]))
                    obtain ⟨xg, hxg⟩ : ∃ xg, xg = (getS M zh).getD zs := ⟨_, rfl⟩
                    have KXG : Hid (xg.Ok) := Lib.hid (hxg ▸ get_ok V_306.states)
                    refine (get_to (x := xg) (v := vz) zh_ok V_306 hxg.symm hvz.symm).mono ?_
                    rintro e y307 ⟨rfl, hB⟩
                    have V_308 : PAt y307 F2 S r pin (M) := V_306.old hB
                    have A_308 : Row y307 A 43 (sac a) := A_306.old hB
                    have H_308 : Row y307 H 29 (u8s (digS a.s)) := H_306.old hB
                    have G_308 : Row y307 G 29 (u8s zh) := G_306.old hB
                    have K_308 : Sl.Own Od.kK y307 0 kp kc (M.map keyN) := hKO.below hB
                    have bel_308 : Chg (fun _ => False) w y307 := bel_306.old hB
                    clear V_306 A_306 H_306 G_306 hKO bel_306 hB
                    clear hxg hvz
                    have l3 := Lib.hid V_308.lies
                    go_wp2_with (first
                      | ((with_reducible refine at_slot 19 ?_); (refine arm_alloc (o := ⟨some 19, _, _, _, _, _⟩) rfl _ rfl (scs zs) z_sta ?_); intro T v309a Te hTa nT; try simp only [Act.put, List.setIfInBounds_toArray, List.set_cons_zero, List.set_cons_succ])
                      | ((with_reducible refine arm_store (o := ⟨none, _, _, _, _, _⟩) rfl _ _ _ rfl T 0 rfl (scs xg) rfl _ _ hTa (fitS KXG.out) (scs_one _) (sz_sta KXG.out) ?_); intro v309 hTb oT sT; try simp only [Act.put, List.setIfInBounds_toArray, List.set_cons_zero, List.set_cons_succ]; refine fpause ?_; try simp only [Act.put, List.setIfInBounds_toArray, List.set_cons_zero, List.set_cons_succ]))
                    have lT : y307.heap.size ≤ T := by have := Te.out; omega
                    have bT : Below y307.heap.size y307 v309 := below_only nT.below oT lT nT.below.size
                    have rrT : Row v309 T 41 (scs xg) := hTb.congr (allS KXG.out)
                    have geT : w.heap.size ≤ T := Nat.le_trans bel_308.size lT
                    have lTx := lT
                    clear hTa hTb nT oT sT Te lT
                    have V_310 : PAt v309 F2 S r pin (M) := V_308.old bT
                    have A_310 : Row v309 A 43 (sac a) := A_308.old bT
                    have H_310 : Row v309 H 29 (u8s (digS a.s)) := H_308.old bT
                    have G_310 : Row v309 G 29 (u8s zh) := G_308.old bT
                    have K_310 : Sl.Own Od.kK v309 0 kp kc (M.map keyN) := K_308.below bT
                    have bel_310 : Chg (fun _ => False) w v309 := bel_308.old bT
                    clear V_308 A_308 H_308 G_308 K_308 bel_308 bT
                    refine fgo ?_
                    have nT : ¬ F2 T := fun q => by have := l3.out T q; omega
                    clear l3
                    go_wp2_with fail
                    refine wp_region_held (S := fun w' => True) (by kernel_rfl) ?_
                    change wpAnyH _ _ _ _ _ _ _ _ v309.drew
                    have hd311 : Below v309.heap.size v309 v309.drew := (Below.refl _ _).drew
                    have V_312 : PAt v309.drew F2 S r pin (M) := V_310.old hd311
                    have A_312 : Row v309.drew A 43 (sac a) := A_310.old hd311
                    have H_312 : Row v309.drew H 29 (u8s (digS a.s)) := H_310.old hd311
                    have G_312 : Row v309.drew G 29 (u8s zh) := G_310.old hd311
                    have K_312 : Sl.Own Od.kK v309.drew 0 kp kc (M.map keyN) := K_310.below hd311
                    have T_312 : Row v309.drew T 41 (scs xg) := rrT.old hd311
                    have bel_312 : Chg (fun _ => False) w v309.drew := bel_310.old hd311
                    clear V_310 A_310 H_310 G_310 K_310 rrT bel_310 hd311
                    generalize v309.drew = yz311 at V_312 A_312 H_312 G_312 K_312 T_312 bel_312 ⊢
                    refine h_take 0 (.bool false) rfl 116 rfl (by kernel_rfl) (by kernel_rfl) (by kernel_rfl) (by kernel_rfl) (fun _ _ _ h => h) (fun w' _ => by kernel_rfl) trivial ?_
                    simp only [Act.put, List.setIfInBounds_toArray, List.set_cons_zero, List.set_cons_succ]
                    refine h_take 1 (.bool false) rfl 117 rfl (by kernel_rfl) (by kernel_rfl) (by kernel_rfl) (by kernel_rfl) (fun _ _ _ h => h) (fun w' _ => by kernel_rfl) trivial ?_
                    simp only [Act.put, List.setIfInBounds_toArray, List.set_cons_zero, List.set_cons_succ]
                    refine h_pass 2 rfl 118 rfl (by kernel_rfl) (by kernel_rfl) (by kernel_rfl) (by kernel_rfl) (fun _ _ _ h => h) trivial ?_
                    simp only [Act.put, List.setIfInBounds_toArray, List.set_cons_zero, List.set_cons_succ]
                    refine h_pass 3 rfl 119 rfl (by kernel_rfl) (by kernel_rfl) (by kernel_rfl) (by kernel_rfl) (fun _ _ _ h => h) trivial ?_
                    simp only [Act.put, List.setIfInBounds_toArray, List.set_cons_zero, List.set_cons_succ]
                    refine h_pass 4 rfl 120 rfl (by kernel_rfl) (by kernel_rfl) (by kernel_rfl) (by kernel_rfl) (fun _ _ _ h => h) trivial ?_
                    simp only [Act.put, List.setIfInBounds_toArray, List.set_cons_zero, List.set_cons_succ]
                    refine h_pass 5 rfl 121 rfl (by kernel_rfl) (by kernel_rfl) (by kernel_rfl) (by kernel_rfl) (fun _ _ _ h => h) trivial ?_
                    simp only [Act.put, List.setIfInBounds_toArray, List.set_cons_zero, List.set_cons_succ]
                    refine h_pass 6 rfl 122 rfl (by kernel_rfl) (by kernel_rfl) (by kernel_rfl) (by kernel_rfl) (fun _ _ _ h => h) trivial ?_
                    simp only [Act.put, List.setIfInBounds_toArray, List.set_cons_zero, List.set_cons_succ]
                    refine h_pass 7 rfl 123 rfl (by kernel_rfl) (by kernel_rfl) (by kernel_rfl) (by kernel_rfl) (fun _ _ _ h => h) trivial ?_
                    simp only [Act.put, List.setIfInBounds_toArray, List.set_cons_zero, List.set_cons_succ]
                    refine h_pass 8 rfl 124 rfl (by kernel_rfl) (by kernel_rfl) (by kernel_rfl) (by kernel_rfl) (fun _ _ _ h => h) trivial ?_
                    simp only [Act.put, List.setIfInBounds_toArray, List.set_cons_zero, List.set_cons_succ]
                    refine h_pass 9 rfl 125 rfl (by kernel_rfl) (by kernel_rfl) (by kernel_rfl) (by kernel_rfl) (fun _ _ _ h => h) trivial ?_
                    simp only [Act.put, List.setIfInBounds_toArray, List.set_cons_zero, List.set_cons_succ]
                    refine h_pass 10 rfl 126 rfl (by kernel_rfl) (by kernel_rfl) (by kernel_rfl) (by kernel_rfl) (fun _ _ _ h => h) trivial ?_
                    simp only [Act.put, List.setIfInBounds_toArray, List.set_cons_zero, List.set_cons_succ]
                    refine h_pass 11 rfl 127 rfl (by kernel_rfl) (by kernel_rfl) (by kernel_rfl) (by kernel_rfl) (fun _ _ _ h => h) trivial ?_
                    simp only [Act.put, List.setIfInBounds_toArray, List.set_cons_zero, List.set_cons_succ]
                    refine h_pass 12 rfl 128 rfl (by kernel_rfl) (by kernel_rfl) (by kernel_rfl) (by kernel_rfl) (fun _ _ _ h => h) trivial ?_
                    simp only [Act.put, List.setIfInBounds_toArray, List.set_cons_zero, List.set_cons_succ]
                    refine h_pass 13 rfl 129 rfl (by kernel_rfl) (by kernel_rfl) (by kernel_rfl) (by kernel_rfl) (fun _ _ _ h => h) trivial ?_
                    simp only [Act.put, List.setIfInBounds_toArray, List.set_cons_zero, List.set_cons_succ]
                    refine h_pass 14 rfl 130 rfl (by kernel_rfl) (by kernel_rfl) (by kernel_rfl) (by kernel_rfl) (fun _ _ _ h => h) trivial ?_
                    simp only [Act.put, List.setIfInBounds_toArray, List.set_cons_zero, List.set_cons_succ]
                    refine h_pass 15 rfl 131 rfl (by kernel_rfl) (by kernel_rfl) (by kernel_rfl) (by kernel_rfl) (fun _ _ _ h => h) trivial ?_
                    simp only [Act.put, List.setIfInBounds_toArray, List.set_cons_zero, List.set_cons_succ]
                    refine h_pass 16 rfl 132 rfl (by kernel_rfl) (by kernel_rfl) (by kernel_rfl) (by kernel_rfl) (fun _ _ _ h => h) trivial ?_
                    simp only [Act.put, List.setIfInBounds_toArray, List.set_cons_zero, List.set_cons_succ]
                    refine h_pass 17 rfl 133 rfl (by kernel_rfl) (by kernel_rfl) (by kernel_rfl) (by kernel_rfl) (fun _ _ _ h => h) trivial ?_
                    simp only [Act.put, List.setIfInBounds_toArray, List.set_cons_zero, List.set_cons_succ]
                    refine h_pass 18 rfl 134 rfl (by kernel_rfl) (by kernel_rfl) (by kernel_rfl) (by kernel_rfl) (fun _ _ _ h => h) trivial ?_
                    simp only [Act.put, List.setIfInBounds_toArray, List.set_cons_zero, List.set_cons_succ]
                    refine h_take 19 (.bool false) rfl 135 rfl (by kernel_rfl) (by kernel_rfl) (by kernel_rfl) (by kernel_rfl) (fun _ _ _ h => h) (fun w' _ => by kernel_rfl) trivial ?_
                    simp only [Act.put, List.setIfInBounds_toArray, List.set_cons_zero, List.set_cons_succ]
                    refine wpAnyH_done (by kernel_rfl) ?_ _
                    go_wp2_with (first
                      | ((with_reducible refine at_slot 138 ?_); (refine arm_load (o := ⟨some 138, _, _, _, _, _⟩) rfl _ _ rfl H 0 rfl (u8s (digS a.s)) ((Has.refl _).range H_312) (szH KH.out) ?_); try simp only [Act.put, List.setIfInBounds_toArray, List.set_cons_zero, List.set_cons_succ]))
                    obtain ⟨xh, hxh⟩ : ∃ xh, xh = (getS M (digS a.s)).getD zs := ⟨_, rfl⟩
                    have KXH : Hid (xh.Ok) := Lib.hid (hxh ▸ get_ok V_312.states)
                    refine (get_to (x := xh) (v := true) KH.out V_312 hxh.symm HIN.out).mono ?_
                    rintro e y313 ⟨rfl, hB⟩
                    have V_314 : PAt y313 F2 S r pin (M) := V_312.old hB
                    have A_314 : Row y313 A 43 (sac a) := A_312.old hB
                    have H_314 : Row y313 H 29 (u8s (digS a.s)) := H_312.old hB
                    have G_314 : Row y313 G 29 (u8s zh) := G_312.old hB
                    have K_314 : Sl.Own Od.kK y313 0 kp kc (M.map keyN) := K_312.below hB
                    have T_314 : Row y313 T 41 (scs xg) := T_312.old hB
                    have bel_314 : Chg (fun _ => False) w y313 := bel_312.old hB
                    clear V_312 A_312 H_312 G_312 K_312 T_312 bel_312 hB
                    clear hxh
                    have l4 := Lib.hid V_314.lies
                    go_wp2_with (first
                      | ((with_reducible refine at_slot 21 ?_); (refine arm_alloc (o := ⟨some 21, _, _, _, _, _⟩) rfl _ rfl (scs zs) z_sta ?_); intro U v315a Ue hUa nU; try simp only [Act.put, List.setIfInBounds_toArray, List.set_cons_zero, List.set_cons_succ])
                      | ((with_reducible refine arm_store (o := ⟨none, _, _, _, _, _⟩) rfl _ _ _ rfl U 0 rfl (scs xh) rfl _ _ hUa (fitS KXH.out) (scs_one _) (sz_sta KXH.out) ?_); intro v315 hUb oU sU; try simp only [Act.put, List.setIfInBounds_toArray, List.set_cons_zero, List.set_cons_succ]; refine fpause ?_; try simp only [Act.put, List.setIfInBounds_toArray, List.set_cons_zero, List.set_cons_succ]))
                    have lU : y313.heap.size ≤ U := by have := Ue.out; omega
                    have bU : Below y313.heap.size y313 v315 := below_only nU.below oU lU nU.below.size
                    have rrU : Row v315 U 41 (scs xh) := hUb.congr (allS KXH.out)
                    have geU : w.heap.size ≤ U := Nat.le_trans bel_314.size lU
                    have lUx := lU
                    clear hUa hUb nU oU sU Ue lU
                    have V_316 : PAt v315 F2 S r pin (M) := V_314.old bU
                    have A_316 : Row v315 A 43 (sac a) := A_314.old bU
                    have H_316 : Row v315 H 29 (u8s (digS a.s)) := H_314.old bU
                    have G_316 : Row v315 G 29 (u8s zh) := G_314.old bU
                    have K_316 : Sl.Own Od.kK v315 0 kp kc (M.map keyN) := K_314.below bU
                    have T_316 : Row v315 T 41 (scs xg) := T_314.old bU
                    have bel_316 : Chg (fun _ => False) w v315 := bel_314.old bU
                    clear V_314 A_314 H_314 G_314 K_314 T_314 bel_314 bU
                    refine fgo ?_
                    have nU : ¬ F2 U := fun q => by have := l4.out U q; omega
                    clear l4
                    go_wp2_with (first
                      | ((with_reducible refine at_slot 149 ?_); (refine arm_want (.bool false) 149 rfl (by kernel_rfl) (run_op_eqlBB' _ _ _ rfl true false rfl rfl false rfl _) ?_); try simp only [Act.put, List.setIfInBounds_toArray, List.set_cons_zero, List.set_cons_succ]))
                    go_meet
                    exact ⟨⟨F2, M, _, V_316, fr2, nA, nH⟩, A_316, H_316, (bel_316.below (fun k hk => hk.elim) (Nat.le_refl _))⟩
                  | some y =>
                    have KY := Lib.hid (digS_ok y)
                    have HNO := Lib.hid (HPF.out.2 y rfl).1
                    have HIN := Lib.hid (HPF.out.2 y rfl).2.2
                    have HNE := Lib.hid (HPF.out.2 y rfl).2.1
                    refine (put_to (d := (digS y)) (v := true) a.s hV KA.out.s HR100.out (HKW.out _ (bel0.below (fun k hk => hk.elim) (Nat.le_refl _))) HQ.out.symm rfl rfl).mono ?_
                    rintro e yP301 ⟨rfl, ⟨F2, hV2, hG2⟩, hc⟩
                    have mA := notF_grew nA hG2 hRA.lt
                    have mH := notF_grew nH hG2 hRH.lt
                    have fr2 := hG2.from fr bel0.size
                    have V_302 : PAt yP301 F2 S r pin (M) := hV2
                    have A_302 : Row yP301 A 43 (sac a) := hRA.chg hc nA
                    have H_302 : Row yP301 H 29 (u8s (digS a.s)) := hRH.chg hc nH
                    have bel_302 : Chg (fun _ => False) w yP301 := bel0.fresh hc fr
                    clear hV hRA hRH bel0 hc
                    clear nA
                    have nA := mA
                    clear mA
                    clear nH
                    have nH := mH
                    clear mH
                    clear hG2
                    have l1 := Lib.hid V_302.lies
                    go_wp2_with (first
                      | ((with_reducible refine at_slot 16 ?_); (refine arm_alloc (o := ⟨some 16, _, _, _, _, _⟩) rfl _ rfl (u8s zh) zH ?_); intro G v303a Ge hGa nG; try simp only [Act.put, List.setIfInBounds_toArray, List.set_cons_zero, List.set_cons_succ])
                      | ((with_reducible refine arm_store (o := ⟨none, _, _, _, _, _⟩) rfl _ _ _ rfl G 0 rfl (u8s (digS y)) rfl _ _ hGa (fitH KY.out) (u8s_one _) (szH KY.out) ?_); intro v303 hGb oG sG; try simp only [Act.put, List.setIfInBounds_toArray, List.set_cons_zero, List.set_cons_succ]))
                    have lG : yP301.heap.size ≤ G := by have := Ge.out; omega
                    have bG : Below yP301.heap.size yP301 v303 := below_only nG.below oG lG nG.below.size
                    have rrG : Row v303 G 29 (u8s (digS y)) := hGb.congr (allH KY.out)
                    have geG : w.heap.size ≤ G := Nat.le_trans bel_302.size lG
                    have lGx := lG
                    clear hGa hGb nG oG sG Ge lG
                    have V_304 : PAt v303 F2 S r pin (M) := V_302.old bG
                    have A_304 : Row v303 A 43 (sac a) := A_302.old bG
                    have H_304 : Row v303 H 29 (u8s (digS a.s)) := H_302.old bG
                    have bel_304 : Chg (fun _ => False) w v303 := bel_302.old bG
                    clear V_302 A_302 H_302 bel_302 bG
                    have nG : ¬ F2 G := fun q => by have := l1.out G q; omega
                    clear l1
                    refine (pkeys_any V_304 HR100.out).mono ?_
                    rintro e y305 ⟨⟨kp, kc, rfl, hKO⟩, hB⟩
                    have hKO := hKO.low (Nat.zero_le _)
                    have V_306 : PAt y305 F2 S r pin (M) := V_304.old hB
                    have A_306 : Row y305 A 43 (sac a) := A_304.old hB
                    have H_306 : Row y305 H 29 (u8s (digS a.s)) := H_304.old hB
                    have G_306 : Row y305 G 29 (u8s (digS y)) := rrG.old hB
                    have bel_306 : Chg (fun _ => False) w y305 := bel_304.old hB
                    clear V_304 A_304 H_304 rrG bel_304 hB
                    go_wp2_with (first
                      | ((with_reducible refine at_slot 112 ?_); (refine arm_load (o := ⟨some 112, _, _, _, _, _⟩) rfl _ _ rfl G 0 rfl (u8s (digS y)) ((Has.refl _).range G_306) (szH KY.out) ?_); try simp only [Act.put, List.setIfInBounds_toArray, List.set_cons_zero, List.set_cons_succ]))
                    obtain ⟨xg, hxg⟩ : ∃ xg, xg = (getS M (digS y)).getD zs := ⟨_, rfl⟩
                    have KXG : Hid (xg.Ok) := Lib.hid (hxg ▸ get_ok V_306.states)
                    refine (get_to (x := xg) (v := false) KY.out V_306 hxg.symm HNO.out).mono ?_
                    rintro e y307 ⟨rfl, hB⟩
                    have V_308 : PAt y307 F2 S r pin (M) := V_306.old hB
                    have A_308 : Row y307 A 43 (sac a) := A_306.old hB
                    have H_308 : Row y307 H 29 (u8s (digS a.s)) := H_306.old hB
                    have G_308 : Row y307 G 29 (u8s (digS y)) := G_306.old hB
                    have K_308 : Sl.Own Od.kK y307 0 kp kc (M.map keyN) := hKO.below hB
                    have bel_308 : Chg (fun _ => False) w y307 := bel_306.old hB
                    clear V_306 A_306 H_306 G_306 hKO bel_306 hB
                    clear hxg
                    have l3 := Lib.hid V_308.lies
                    go_wp2_with (first
                      | ((with_reducible refine at_slot 19 ?_); (refine arm_alloc (o := ⟨some 19, _, _, _, _, _⟩) rfl _ rfl (scs zs) z_sta ?_); intro T v309a Te hTa nT; try simp only [Act.put, List.setIfInBounds_toArray, List.set_cons_zero, List.set_cons_succ])
                      | ((with_reducible refine arm_store (o := ⟨none, _, _, _, _, _⟩) rfl _ _ _ rfl T 0 rfl (scs xg) rfl _ _ hTa (fitS KXG.out) (scs_one _) (sz_sta KXG.out) ?_); intro v309 hTb oT sT; try simp only [Act.put, List.setIfInBounds_toArray, List.set_cons_zero, List.set_cons_succ]; refine fpause ?_; try simp only [Act.put, List.setIfInBounds_toArray, List.set_cons_zero, List.set_cons_succ]))
                    have lT : y307.heap.size ≤ T := by have := Te.out; omega
                    have bT : Below y307.heap.size y307 v309 := below_only nT.below oT lT nT.below.size
                    have rrT : Row v309 T 41 (scs xg) := hTb.congr (allS KXG.out)
                    have geT : w.heap.size ≤ T := Nat.le_trans bel_308.size lT
                    have lTx := lT
                    clear hTa hTb nT oT sT Te lT
                    have V_310 : PAt v309 F2 S r pin (M) := V_308.old bT
                    have A_310 : Row v309 A 43 (sac a) := A_308.old bT
                    have H_310 : Row v309 H 29 (u8s (digS a.s)) := H_308.old bT
                    have G_310 : Row v309 G 29 (u8s (digS y)) := G_308.old bT
                    have K_310 : Sl.Own Od.kK v309 0 kp kc (M.map keyN) := K_308.below bT
                    have bel_310 : Chg (fun _ => False) w v309 := bel_308.old bT
                    clear V_308 A_308 H_308 G_308 K_308 bel_308 bT
                    refine fgo ?_
                    have nT : ¬ F2 T := fun q => by have := l3.out T q; omega
                    clear l3
                    obtain ⟨n, hn⟩ : ∃ n, M.length = n + 1 := ⟨M.length - 1, by have := List.length_pos_iff.2 HNE.out; omega⟩
                    obtain ⟨xl, hxl⟩ : ∃ xl, M[n]? = some xl := ⟨_, List.getElem?_eq_getElem (by omega)⟩
                    have HNL := Lib.hid (last_not HNO.out hxl)
                    have kxl : (M.map keyN)[n]? = some (keyN xl) := by rw [List.getElem?_map, hxl]; rfl
                    have KXL := Lib.hid (digS_ok xl)
                    have kkl : (keyN xl).Ok := keyN_ok (V_310.states xl (List.mem_of_getElem? hxl))
                    have hlr := V_310.ok.len
                    obtain ⟨g1, cs1, rr1, hp1, _, _, _, _⟩ := K_310.as_row (by rw [List.length_map]; omega)
                    subst hp1
                    have hAt := K_310.at Od.fK
                    obtain ⟨g', o', e', _, hr1⟩ := hAt.at_ n (keyN xl) kxl
                    obtain ⟨rfl, rfl⟩ : g1 = g' ∧ 0 = o' := by simpa using e'
                    have hrl : v309.rangeAt g1 (0 + n * 65 + 33) (u8s (digS xl)) := (key_hash' kkl hr1)
                    have hsub : IntKind.i64.wrap (((M.length : Nat) : Int) - 1) = (n : Int) := by rw [hn]; have := HR100.out; simp [IntKind.wrap, IntKind.bits, IntKind.signed]; omega
                    have HLN : Hid (n < M.length) := Lib.hid (by omega)
                    have d0 : decide (((M.length : Nat) : Int) = 0) = false := decide_eq_false (by omega)
                    have HSUB := Lib.hid hsub
                    clear hxl kxl kkl hlr hAt e' hr1 hsub hn
                    clear K_310
                    go_wp2_with fail
                    refine wp_region_held (S := fun w' => Row w' G 29 (u8s (digS y)) ∧ w'.rangeAt g1 (0 + n * 65 + 33) (u8s (digS xl)) ∧ True) (by kernel_rfl) ?_
                    change wpAnyH _ _ _ _ _ _ _ _ v309.drew
                    have hd311 : Below v309.heap.size v309 v309.drew := (Below.refl _ _).drew
                    have V_312 : PAt v309.drew F2 S r pin (M) := V_310.old hd311
                    have A_312 : Row v309.drew A 43 (sac a) := A_310.old hd311
                    have H_312 : Row v309.drew H 29 (u8s (digS a.s)) := H_310.old hd311
                    have G_312 : Row v309.drew G 29 (u8s (digS y)) := G_310.old hd311
                    have T_312 : Row v309.drew T 41 (scs xg) := rrT.old hd311
                    have D_312 : v309.drew.rangeAt g1 (0 + n * 65 + 33) (u8s (digS xl)) := range_u8' hrl KXL.out hd311
                    have bel_312 : Chg (fun _ => False) w v309.drew := bel_310.old hd311
                    clear V_310 A_310 H_310 G_310 rrT hrl bel_310 hd311
                    generalize v309.drew = yz311 at V_312 A_312 H_312 G_312 T_312 D_312 bel_312 ⊢
                    refine h_take 0 (.bool true) rfl 116 rfl (by kernel_rfl) (by kernel_rfl) (by kernel_rfl) (by kernel_rfl) (fun _ _ _ h => h) (fun w' _ => by kernel_rfl) ⟨G_312, D_312, trivial⟩ ?_
                    simp only [Act.put, List.setIfInBounds_toArray, List.set_cons_zero, List.set_cons_succ]
                    refine h_take 1 (.bool true) rfl 117 rfl (by kernel_rfl) (by kernel_rfl) (by kernel_rfl) (by kernel_rfl) (fun _ _ _ h => h) (fun w' _ => by kernel_rfl) ⟨G_312, D_312, trivial⟩ ?_
                    simp only [Act.put, List.setIfInBounds_toArray, List.set_cons_zero, List.set_cons_succ]
                    refine h_take 2 (.bool false) rfl 118 rfl (by kernel_rfl) (by kernel_rfl) (by kernel_rfl) (by kernel_rfl) (fun _ _ _ h => h) (fun w' _ => by kernel_rfl) ⟨G_312, D_312, trivial⟩ ?_
                    simp only [Act.put, List.setIfInBounds_toArray, List.set_cons_zero, List.set_cons_succ]
                    refine h_take 3 (.bool false) rfl 119 rfl (by kernel_rfl) (by kernel_rfl) (by kernel_rfl) (by kernel_rfl) (fun _ _ _ h => h) (fun w' _ => by kernel_rfl) ⟨G_312, D_312, trivial⟩ ?_
                    simp only [Act.put, List.setIfInBounds_toArray, List.set_cons_zero, List.set_cons_succ]
                    refine h_take 4 (.slice (some ⟨g1, 0, none⟩) M.length kc) rfl 120 rfl (by kernel_rfl) (by kernel_rfl) (by kernel_rfl) (by kernel_rfl) (fun _ _ _ h => h) (fun w' _ => by kernel_rfl) ⟨G_312, D_312, trivial⟩ ?_
                    simp only [Act.put, List.setIfInBounds_toArray, List.set_cons_zero, List.set_cons_succ]
                    refine h_take 5 (.int .i64 (M.length : Int)) rfl 121 rfl (by kernel_rfl) (by kernel_rfl) (by kernel_rfl) (by kernel_rfl) (fun _ _ _ h => h) (fun w' _ => Sl.run_op_lenK _ _ _ rfl Od.fK.und _ _ _ rfl w') ⟨G_312, D_312, trivial⟩ ?_
                    simp only [Act.put, List.setIfInBounds_toArray, List.set_cons_zero, List.set_cons_succ]
                    refine h_take 6 (.bool false) rfl 122 rfl (by kernel_rfl) (by kernel_rfl) (by kernel_rfl) (by kernel_rfl) (fun _ _ _ h => h) (fun w' _ => cmp_eql _ _ .i64 (by kernel_rfl) _ _ rfl .i64 (M.length : Int) (0 : Int) rfl rfl false d0 w') ⟨G_312, D_312, trivial⟩ ?_
                    simp only [Act.put, List.setIfInBounds_toArray, List.set_cons_zero, List.set_cons_succ]
                    refine h_take 7 (.bool false) rfl 123 rfl (by kernel_rfl) (by kernel_rfl) (by kernel_rfl) (by kernel_rfl) (fun _ _ _ h => h) (fun w' _ => by kernel_rfl) ⟨G_312, D_312, trivial⟩ ?_
                    simp only [Act.put, List.setIfInBounds_toArray, List.set_cons_zero, List.set_cons_succ]
                    refine h_take 8 (.bool false) rfl 124 rfl (by kernel_rfl) (by kernel_rfl) (by kernel_rfl) (by kernel_rfl) (fun _ _ _ h => h) (fun w' _ => by kernel_rfl) ⟨G_312, D_312, trivial⟩ ?_
                    simp only [Act.put, List.setIfInBounds_toArray, List.set_cons_zero, List.set_cons_succ]
                    refine h_take 9 (.slice (some ⟨g1, 0, none⟩) M.length kc) rfl 125 rfl (by kernel_rfl) (by kernel_rfl) (by kernel_rfl) (by kernel_rfl) (fun _ _ _ h => h) (fun w' _ => by kernel_rfl) ⟨G_312, D_312, trivial⟩ ?_
                    simp only [Act.put, List.setIfInBounds_toArray, List.set_cons_zero, List.set_cons_succ]
                    refine h_take 10 (.slice (some ⟨g1, 0, none⟩) M.length kc) rfl 126 rfl (by kernel_rfl) (by kernel_rfl) (by kernel_rfl) (by kernel_rfl) (fun _ _ _ h => h) (fun w' _ => by kernel_rfl) ⟨G_312, D_312, trivial⟩ ?_
                    simp only [Act.put, List.setIfInBounds_toArray, List.set_cons_zero, List.set_cons_succ]
                    refine h_take 11 (.int .i64 (M.length : Int)) rfl 127 rfl (by kernel_rfl) (by kernel_rfl) (by kernel_rfl) (by kernel_rfl) (fun _ _ _ h => h) (fun w' _ => Sl.run_op_lenK _ _ _ rfl Od.fK.und _ _ _ rfl w') ⟨G_312, D_312, trivial⟩ ?_
                    simp only [Act.put, List.setIfInBounds_toArray, List.set_cons_zero, List.set_cons_succ]
                    refine h_take 12 (.int .i64 (n : Int)) rfl 128 rfl (by kernel_rfl) (by kernel_rfl) (by kernel_rfl) (by kernel_rfl) (fun _ _ _ h => h) (fun w' _ => run_op_subW _ _ _ _ rfl (M.length : Int) 1 rfl rfl (n : Int) HSUB.out w') ⟨G_312, D_312, trivial⟩ ?_
                    simp only [Act.put, List.setIfInBounds_toArray, List.set_cons_zero, List.set_cons_succ]
                    refine h_take 13 (.pointer (some ⟨g1, 0 + n * 65, none⟩)) rfl 129 rfl (by kernel_rfl) (by kernel_rfl) (by kernel_rfl) (by kernel_rfl) (fun _ _ _ h => h) (fun w' _ => Sl.run_op_index Od.fK _ _ rfl g1 0 _ _ rfl .i64 _ rfl n rfl HLN.out w') ⟨G_312, D_312, trivial⟩ ?_
                    simp only [Act.put, List.setIfInBounds_toArray, List.set_cons_zero, List.set_cons_succ]
                    refine h_take 14 (.pointer (some ⟨g1, 0 + n * 65 + 33, none⟩)) rfl 130 rfl (by kernel_rfl) (by kernel_rfl) (by kernel_rfl) (by kernel_rfl) (fun _ _ _ h => h) (fun w' _ => by kernel_rfl) ⟨G_312, D_312, trivial⟩ ?_
                    simp only [Act.put, List.setIfInBounds_toArray, List.set_cons_zero, List.set_cons_succ]
                    refine h_take 15 (.agg (u8s (digS xl)).toArray) rfl 131 rfl (by kernel_rfl) (by kernel_rfl) (by kernel_rfl) (by kernel_rfl) (fun _ _ _ h => h) (fun w' hw => run_op_load _ _ rfl g1 (0 + n * 65 + 33) rfl (u8s (digS xl)) hw.2.1 (szH KXL.out)) ⟨G_312, D_312, trivial⟩ ?_
                    simp only [Act.put, List.setIfInBounds_toArray, List.set_cons_zero, List.set_cons_succ]
                    refine h_take 16 (.agg (u8s (digS y)).toArray) rfl 132 rfl (by kernel_rfl) (by kernel_rfl) (by kernel_rfl) (by kernel_rfl) (fun _ _ _ h => h) (fun w' hw => run_op_load _ _ rfl G (0) rfl (u8s (digS y)) (((Has.refl _)).range hw.1) ((szH KY.out))) ⟨G_312, D_312, trivial⟩ ?_
                    simp only [Act.put, List.setIfInBounds_toArray, List.set_cons_zero, List.set_cons_succ]
                    refine h_take 17 (.bool false) rfl 133 rfl (by kernel_rfl) (by kernel_rfl) (by kernel_rfl) (by kernel_rfl) (fun _ _ _ h => h) (fun w' _ => run_op_eqlW _ _ _ rfl (digS xl) (digS y) KXL.out KY.out rfl rfl false HNL.out w') ⟨G_312, D_312, trivial⟩ ?_
                    simp only [Act.put, List.setIfInBounds_toArray, List.set_cons_zero, List.set_cons_succ]
                    refine h_take 18 (.bool false) rfl 134 rfl (by kernel_rfl) (by kernel_rfl) (by kernel_rfl) (by kernel_rfl) (fun _ _ _ h => h) (fun w' _ => by kernel_rfl) ⟨G_312, D_312, trivial⟩ ?_
                    simp only [Act.put, List.setIfInBounds_toArray, List.set_cons_zero, List.set_cons_succ]
                    refine h_take 19 (.bool false) rfl 135 rfl (by kernel_rfl) (by kernel_rfl) (by kernel_rfl) (by kernel_rfl) (fun _ _ _ h => h) (fun w' _ => by kernel_rfl) ⟨G_312, D_312, trivial⟩ ?_
                    simp only [Act.put, List.setIfInBounds_toArray, List.set_cons_zero, List.set_cons_succ]
                    refine wpAnyH_done (by kernel_rfl) ?_ _
                    clear D_312
                    go_wp2_with (first
                      | ((with_reducible refine at_slot 138 ?_); (refine arm_load (o := ⟨some 138, _, _, _, _, _⟩) rfl _ _ rfl H 0 rfl (u8s (digS a.s)) ((Has.refl _).range H_312) (szH KH.out) ?_); try simp only [Act.put, List.setIfInBounds_toArray, List.set_cons_zero, List.set_cons_succ]))
                    obtain ⟨xh, hxh⟩ : ∃ xh, xh = (getS M (digS a.s)).getD zs := ⟨_, rfl⟩
                    have KXH : Hid (xh.Ok) := Lib.hid (hxh ▸ get_ok V_312.states)
                    refine (get_to (x := xh) (v := (!decide (digS y = digS a.s))) KH.out V_312 hxh.symm HIN.out).mono ?_
                    rintro e y313 ⟨rfl, hB⟩
                    have V_314 : PAt y313 F2 S r pin (M) := V_312.old hB
                    have A_314 : Row y313 A 43 (sac a) := A_312.old hB
                    have H_314 : Row y313 H 29 (u8s (digS a.s)) := H_312.old hB
                    have G_314 : Row y313 G 29 (u8s (digS y)) := G_312.old hB
                    have T_314 : Row y313 T 41 (scs xg) := T_312.old hB
                    have bel_314 : Chg (fun _ => False) w y313 := bel_312.old hB
                    clear V_312 A_312 H_312 G_312 T_312 bel_312 hB
                    clear hxh
                    have l4 := Lib.hid V_314.lies
                    go_wp2_with (first
                      | ((with_reducible refine at_slot 21 ?_); (refine arm_alloc (o := ⟨some 21, _, _, _, _, _⟩) rfl _ rfl (scs zs) z_sta ?_); intro U v315a Ue hUa nU; try simp only [Act.put, List.setIfInBounds_toArray, List.set_cons_zero, List.set_cons_succ])
                      | ((with_reducible refine arm_store (o := ⟨none, _, _, _, _, _⟩) rfl _ _ _ rfl U 0 rfl (scs xh) rfl _ _ hUa (fitS KXH.out) (scs_one _) (sz_sta KXH.out) ?_); intro v315 hUb oU sU; try simp only [Act.put, List.setIfInBounds_toArray, List.set_cons_zero, List.set_cons_succ]; refine fpause ?_; try simp only [Act.put, List.setIfInBounds_toArray, List.set_cons_zero, List.set_cons_succ]))
                    have lU : y313.heap.size ≤ U := by have := Ue.out; omega
                    have bU : Below y313.heap.size y313 v315 := below_only nU.below oU lU nU.below.size
                    have rrU : Row v315 U 41 (scs xh) := hUb.congr (allS KXH.out)
                    have geU : w.heap.size ≤ U := Nat.le_trans bel_314.size lU
                    have lUx := lU
                    clear hUa hUb nU oU sU Ue lU
                    have V_316 : PAt v315 F2 S r pin (M) := V_314.old bU
                    have A_316 : Row v315 A 43 (sac a) := A_314.old bU
                    have H_316 : Row v315 H 29 (u8s (digS a.s)) := H_314.old bU
                    have G_316 : Row v315 G 29 (u8s (digS y)) := G_314.old bU
                    have T_316 : Row v315 T 41 (scs xg) := T_314.old bU
                    have bel_316 : Chg (fun _ => False) w v315 := bel_314.old bU
                    clear V_314 A_314 H_314 G_314 T_314 bel_314 bU
                    refine fgo ?_
                    have nU : ¬ F2 U := fun q => by have := l4.out U q; omega
                    clear l4
                    obtain ⟨vy, hvy⟩ : ∃ vy, decide (digS y = digS a.s) = vy := ⟨_, rfl⟩
                    rw [hvy]
                    have HVY := Lib.hid hvy
                    clear hvy
                    go_wp2_with (first
                      | ((with_reducible refine at_slot 145 ?_); (refine arm_want (.agg (u8s (digS y)).toArray) 145 rfl (by kernel_rfl) (run_op_load _ _ rfl G 0 rfl (u8s (digS y)) ((Has.refl _).range G_316) (szH KY.out)) ?_); try simp only [Act.put, List.setIfInBounds_toArray, List.set_cons_zero, List.set_cons_succ])
                      | ((with_reducible refine at_slot 146 ?_); (refine arm_want (.agg (u8s (digS a.s)).toArray) 146 rfl (by kernel_rfl) (run_op_load _ _ rfl H 0 rfl (u8s (digS a.s)) ((Has.refl _).range H_316) (szH KH.out)) ?_); try simp only [Act.put, List.setIfInBounds_toArray, List.set_cons_zero, List.set_cons_succ])
                      | ((with_reducible refine at_slot 147 ?_); (refine arm_want (.bool vy) 147 rfl (by kernel_rfl) (run_op_eqlW _ _ _ rfl (digS y) (digS a.s) KY.out KH.out rfl rfl vy (HVY.out) _) ?_); try simp only [Act.put, List.setIfInBounds_toArray, List.set_cons_zero, List.set_cons_succ])
                      | ((with_reducible refine at_slot 149 ?_); (refine arm_want (.bool false) 149 rfl (by kernel_rfl) (run_op_eqlBB' _ _ _ rfl (!vy) vy rfl rfl false (by cases vy <;> rfl) _) ?_); try simp only [Act.put, List.setIfInBounds_toArray, List.set_cons_zero, List.set_cons_succ]))
                    go_meet
                    exact ⟨⟨F2, M, _, V_316, fr2, nA, nH⟩, A_316, H_316, (bel_316.below (fun k hk => hk.elim) (Nat.le_refl _))⟩
                · skip
                  rw [decide_eq_false hd]
                  clear hd
                  go_wp2_with fail
                  go_meet
                  exact ⟨⟨F, L, pin, hV, fr, nA, nH⟩, hRA, hRH, (bel0.below (fun k hk => hk.elim) (Nat.le_refl _))⟩
              case rest =>
                clear hV hRA hRH bel0 nA nH fr
                obtain ⟨⟨F, L, pin, hV, fr, nA, nH⟩, hRA, hRH, hbl⟩ := hcut
                have bel0 : Chg (fun _ => False) w wc := Chg.of_below _ hbl
                clear hbl
                generalize wc = W400 at hV hRA hRH bel0 ⊢
                go_wp2_with fail
                obtain ⟨ph, hph⟩ : ∃ ph, ph = pin.getD zh := ⟨_, rfl⟩
                obtain ⟨pv, hpv⟩ : ∃ pv, pv = pin.isSome := ⟨_, rfl⟩
                have KPH : Hid (H32 ph) := Lib.hid (hph ▸ ppin_ok hV)
                have HPI : Hid (pv = true → hasB ph L = true) := Lib.hid (by rw [hph, hpv]; exact pin_kept hV.ok)
                refine (pinned_to hV hph.symm hpv.symm).mono ?_
                rintro e y401 ⟨rfl, hB⟩
                have V_402 : PAt y401 F S r pin (L) := hV.old hB
                have A_402 : Row y401 A 43 (sac a) := hRA.old hB
                have H_402 : Row y401 H 29 (u8s (digS a.s)) := hRH.old hB
                have bel_402 : Chg (fun _ => False) w y401 := bel0.old hB
                clear hV hRA hRH bel0 hB
                clear hph hpv
                have l5 := Lib.hid V_402.lies
                go_wp2_with (first
                  | ((with_reducible refine at_slot 23 ?_); (refine arm_alloc (o := ⟨some 23, _, _, _, _, _⟩) rfl _ rfl (u8s zh) zH ?_); intro G v403a Ge hGa nG; try simp only [Act.put, List.setIfInBounds_toArray, List.set_cons_zero, List.set_cons_succ])
                  | ((with_reducible refine arm_store (o := ⟨none, _, _, _, _, _⟩) rfl _ _ _ rfl G 0 rfl (u8s ph) rfl _ _ hGa (fitH KPH.out) (u8s_one _) (szH KPH.out) ?_); intro v403 hGb oG sG; try simp only [Act.put, List.setIfInBounds_toArray, List.set_cons_zero, List.set_cons_succ]; refine fpause ?_; try simp only [Act.put, List.setIfInBounds_toArray, List.set_cons_zero, List.set_cons_succ]))
                have lG : y401.heap.size ≤ G := by have := Ge.out; omega
                have bG : Below y401.heap.size y401 v403 := below_only nG.below oG lG nG.below.size
                have rrG : Row v403 G 29 (u8s ph) := hGb.congr (allH KPH.out)
                have geG : w.heap.size ≤ G := Nat.le_trans bel_402.size lG
                have lGx := lG
                clear hGa hGb nG oG sG Ge lG
                have V_404 : PAt v403 F S r pin (L) := V_402.old bG
                have A_404 : Row v403 A 43 (sac a) := A_402.old bG
                have H_404 : Row v403 H 29 (u8s (digS a.s)) := H_402.old bG
                have bel_404 : Chg (fun _ => False) w v403 := bel_402.old bG
                clear V_402 A_402 H_402 bel_402 bG
                refine fgo ?_
                have nG : ¬ F G := fun q => by have := l5.out G q; omega
                clear l5
                go_upto_if 155 with (fail)
                try simp only [Act.put, List.setIfInBounds_toArray, List.set_cons_zero, List.set_cons_succ]
                go_cut [] (fun wx => KpRel w S r A H a wx)
                case first => as_aux_lemma =>
                  cases pv with
                  | false =>
                    go_wp2_with fail
                    go_meet
                    exact ⟨⟨F, L, pin, V_404, fr, nA, nH⟩, A_404, H_404, (bel_404.below (fun k hk => hk.elim) (Nat.le_refl _))⟩
                  | true =>
                    have HIN := Lib.hid (HPI.out rfl)
                    go_wp2_with (first
                      | ((with_reducible refine at_slot 158 ?_); (refine arm_load (o := ⟨some 158, _, _, _, _, _⟩) rfl _ _ rfl G 0 rfl (u8s ph) ((Has.refl _).range rrG) (szH KPH.out) ?_); try simp only [Act.put, List.setIfInBounds_toArray, List.set_cons_zero, List.set_cons_succ]))
                    obtain ⟨xg, hxg⟩ : ∃ xg, xg = (getS L ph).getD zs := ⟨_, rfl⟩
                    have KXG : Hid (xg.Ok) := Lib.hid (hxg ▸ get_ok V_404.states)
                    refine (get_to (x := xg) (v := true) KPH.out V_404 hxg.symm HIN.out).mono ?_
                    rintro e y405 ⟨rfl, hB⟩
                    have V_406 : PAt y405 F S r pin (L) := V_404.old hB
                    have A_406 : Row y405 A 43 (sac a) := A_404.old hB
                    have H_406 : Row y405 H 29 (u8s (digS a.s)) := H_404.old hB
                    have G_406 : Row y405 G 29 (u8s ph) := rrG.old hB
                    have bel_406 : Chg (fun _ => False) w y405 := bel_404.old hB
                    clear V_404 A_404 H_404 rrG bel_404 hB
                    clear hxg
                    have l3 := Lib.hid V_406.lies
                    go_wp2_with (first
                      | ((with_reducible refine at_slot 25 ?_); (refine arm_alloc (o := ⟨some 25, _, _, _, _, _⟩) rfl _ rfl (scs zs) z_sta ?_); intro T v407a Te hTa nT; try simp only [Act.put, List.setIfInBounds_toArray, List.set_cons_zero, List.set_cons_succ])
                      | ((with_reducible refine arm_store (o := ⟨none, _, _, _, _, _⟩) rfl _ _ _ rfl T 0 rfl (scs xg) rfl _ _ hTa (fitS KXG.out) (scs_one _) (sz_sta KXG.out) ?_); intro v407 hTb oT sT; try simp only [Act.put, List.setIfInBounds_toArray, List.set_cons_zero, List.set_cons_succ]; refine fpause ?_; try simp only [Act.put, List.setIfInBounds_toArray, List.set_cons_zero, List.set_cons_succ]))
                    have lT : y405.heap.size ≤ T := by have := Te.out; omega
                    have bT : Below y405.heap.size y405 v407 := below_only nT.below oT lT nT.below.size
                    have rrT : Row v407 T 41 (scs xg) := hTb.congr (allS KXG.out)
                    have geT : w.heap.size ≤ T := Nat.le_trans bel_406.size lT
                    have lTx := lT
                    clear hTa hTb nT oT sT Te lT
                    have V_408 : PAt v407 F S r pin (L) := V_406.old bT
                    have A_408 : Row v407 A 43 (sac a) := A_406.old bT
                    have H_408 : Row v407 H 29 (u8s (digS a.s)) := H_406.old bT
                    have G_408 : Row v407 G 29 (u8s ph) := G_406.old bT
                    have bel_408 : Chg (fun _ => False) w v407 := bel_406.old bT
                    clear V_406 A_406 H_406 G_406 bel_406 bT
                    refine fgo ?_
                    have nT : ¬ F T := fun q => by have := l3.out T q; omega
                    clear l3
                    go_wp2_with fail
                    go_meet
                    exact ⟨⟨F, L, pin, V_408, fr, nA, nH⟩, A_408, H_408, (bel_408.below (fun k hk => hk.elim) (Nat.le_refl _))⟩
                case rest =>
                  clear V_404 A_404 H_404 rrG bel_404 nA nH fr nG KPH HPI
                  obtain ⟨⟨F, L, pin, hV, fr, nA, nH⟩, hRA, hRH, hbl⟩ := hcut
                  have bel0 : Chg (fun _ => False) w wc := Chg.of_below _ hbl
                  clear hbl
                  generalize wc = W500 at hV hRA hRH bel0 ⊢
                  go_wp2_with fail
                  refine (pkeys_any hV HR100.out).mono ?_
                  rintro e y501 ⟨⟨kp, kc, rfl, hKO⟩, hB⟩
                  have hKO := hKO.low (Nat.zero_le _)
                  have V_502 : PAt y501 F S r pin (L) := hV.old hB
                  have A_502 : Row y501 A 43 (sac a) := hRA.old hB
                  have H_502 : Row y501 H 29 (u8s (digS a.s)) := hRH.old hB
                  have bel_502 : Chg (fun _ => False) w y501 := bel0.old hB
                  clear hV hRA hRH bel0 hB
                  go_wp2_with fail
                  have dL : decide ((r : Int) < (L.length : Int)) = false := decide_eq_false (by have := V_502.ok.len; omega)
                  have dN : decide ((L.length : Int) = (L.length : Int)) = !false := decide_eq_true rfl
                  refine (len_to V_502 rfl).mono ?_
                  rintro e z503 ⟨rfl, rfl⟩
                  go_wp2_with (first
                    | ((with_reducible refine at_slot 169 ?_); (refine arm_want (.bool false) 169 rfl (by kernel_rfl) (cmp_gtr _ _ _ _ rfl .i64 ((L.length : Int)) ((r : Int)) rfl rfl false (dL) _) ?_); try simp only [Act.put, List.setIfInBounds_toArray, List.set_cons_zero, List.set_cons_succ]))
                  refine (len_to V_502 rfl).mono ?_
                  rintro e z504 ⟨rfl, rfl⟩
                  clear dL
                  go_wp2_with (first
                    | ((with_reducible refine at_slot 175 ?_); (refine arm_want (.bool false) 175 rfl (by kernel_rfl) (cmp_neq _ _ .i64 (by kernel_rfl) _ _ rfl .i64 ((L.length : Int)) ((L.length : Int)) rfl rfl false (dN) _) ?_); try simp only [Act.put, List.setIfInBounds_toArray, List.set_cons_zero, List.set_cons_succ]))
                  clear dN
                  have HA := Lib.hid (hKO.at Od.fK)
                  have HV := Lib.hid V_502
                  have HUP := Lib.hid V_502.ok.up
                  have HLR : Hid (L.length ≤ 100) := Lib.hid (by have := V_502.ok.len; have := HR100.out; omega)
                  have HKK := Lib.hid (fun y hy => keyN_ok (V_502.states y hy))
                  have HBL := Lib.hid (bel_502.below (fun k hk => hk.elim) (Nat.le_refl _))
                  clear V_502 hKO A_502 H_502 bel_502 nA nH
                  generalize y501 = W5 at HA HV HBL ⊢
                  try simp only [Act.put]
                  have h0 : KwRel w W5 L (.int .i64 0) W5 := ⟨⟨0, Nat.zero_le _, rfl⟩, Below.refl _ _⟩
                  go_loopw [179] (fun i wx => KwRel w W5 L i wx) (fun i _ => L.length - (intOf i).toNat)
                  case atStart => exact h0
                  case round => as_aux_lemma =>
                    clear h0
                    obtain ⟨⟨j, hj, rfl⟩, bl⟩ := hrel
                    have HBX := Lib.hid bl
                    by_cases hjl : j < L.length
                    · skip
                      have ij : (j : Int) < (L.length : Int) := by omega
                      have j100 : j < 100 := by have := HLR.out; omega
                      cases j with
                      | zero =>
                        have bel0 : Chg (fun _ => False) W5 wr := Chg.of_below _ bl
                        clear bl
                        go_wp2_with fail
                        refine wp_region_held (S := fun w' => True) (by kernel_rfl) ?_
                        change wpAnyH _ _ _ _ _ _ _ _ wr.drew
                        have hd601 : Below wr.heap.size wr wr.drew := (Below.refl _ _).drew
                        have bel_602 : Chg (fun _ => False) W5 wr.drew := bel0.old hd601
                        clear bel0 hd601
                        generalize wr.drew = yz601 at bel_602 ⊢
                        refine h_take 0 (.int .i64 ((0 : Nat) : Int)) rfl 182 rfl (by kernel_rfl) (by kernel_rfl) (by kernel_rfl) (by kernel_rfl) (fun _ _ _ h => h) (fun w' _ => by kernel_rfl) trivial ?_
                        simp only [Act.put, List.setIfInBounds_toArray, List.set_cons_zero, List.set_cons_succ]
                        refine h_take 1 (.bool false) rfl 183 rfl (by kernel_rfl) (by kernel_rfl) (by kernel_rfl) (by kernel_rfl) (fun _ _ _ h => h) (fun w' _ => by kernel_rfl) trivial ?_
                        simp only [Act.put, List.setIfInBounds_toArray, List.set_cons_zero, List.set_cons_succ]
                        refine h_take 2 (.bool false) rfl 184 rfl (by kernel_rfl) (by kernel_rfl) (by kernel_rfl) (by kernel_rfl) (fun _ _ _ h => h) (fun w' _ => by kernel_rfl) trivial ?_
                        simp only [Act.put, List.setIfInBounds_toArray, List.set_cons_zero, List.set_cons_succ]
                        refine h_pass 3 rfl 185 rfl (by kernel_rfl) (by kernel_rfl) (by kernel_rfl) (by kernel_rfl) (fun _ _ _ h => h) trivial ?_
                        simp only [Act.put, List.setIfInBounds_toArray, List.set_cons_zero, List.set_cons_succ]
                        refine h_pass 4 rfl 186 rfl (by kernel_rfl) (by kernel_rfl) (by kernel_rfl) (by kernel_rfl) (fun _ _ _ h => h) trivial ?_
                        simp only [Act.put, List.setIfInBounds_toArray, List.set_cons_zero, List.set_cons_succ]
                        refine h_pass 5 rfl 187 rfl (by kernel_rfl) (by kernel_rfl) (by kernel_rfl) (by kernel_rfl) (fun _ _ _ h => h) trivial ?_
                        simp only [Act.put, List.setIfInBounds_toArray, List.set_cons_zero, List.set_cons_succ]
                        refine h_pass 6 rfl 188 rfl (by kernel_rfl) (by kernel_rfl) (by kernel_rfl) (by kernel_rfl) (fun _ _ _ h => h) trivial ?_
                        simp only [Act.put, List.setIfInBounds_toArray, List.set_cons_zero, List.set_cons_succ]
                        refine h_pass 7 rfl 189 rfl (by kernel_rfl) (by kernel_rfl) (by kernel_rfl) (by kernel_rfl) (fun _ _ _ h => h) trivial ?_
                        simp only [Act.put, List.setIfInBounds_toArray, List.set_cons_zero, List.set_cons_succ]
                        refine h_pass 8 rfl 190 rfl (by kernel_rfl) (by kernel_rfl) (by kernel_rfl) (by kernel_rfl) (fun _ _ _ h => h) trivial ?_
                        simp only [Act.put, List.setIfInBounds_toArray, List.set_cons_zero, List.set_cons_succ]
                        refine h_pass 9 rfl 191 rfl (by kernel_rfl) (by kernel_rfl) (by kernel_rfl) (by kernel_rfl) (fun _ _ _ h => h) trivial ?_
                        simp only [Act.put, List.setIfInBounds_toArray, List.set_cons_zero, List.set_cons_succ]
                        refine h_pass 10 rfl 192 rfl (by kernel_rfl) (by kernel_rfl) (by kernel_rfl) (by kernel_rfl) (fun _ _ _ h => h) trivial ?_
                        simp only [Act.put, List.setIfInBounds_toArray, List.set_cons_zero, List.set_cons_succ]
                        refine h_pass 11 rfl 193 rfl (by kernel_rfl) (by kernel_rfl) (by kernel_rfl) (by kernel_rfl) (fun _ _ _ h => h) trivial ?_
                        simp only [Act.put, List.setIfInBounds_toArray, List.set_cons_zero, List.set_cons_succ]
                        refine h_pass 12 rfl 194 rfl (by kernel_rfl) (by kernel_rfl) (by kernel_rfl) (by kernel_rfl) (fun _ _ _ h => h) trivial ?_
                        simp only [Act.put, List.setIfInBounds_toArray, List.set_cons_zero, List.set_cons_succ]
                        refine h_pass 13 rfl 195 rfl (by kernel_rfl) (by kernel_rfl) (by kernel_rfl) (by kernel_rfl) (fun _ _ _ h => h) trivial ?_
                        simp only [Act.put, List.setIfInBounds_toArray, List.set_cons_zero, List.set_cons_succ]
                        refine h_take 14 (.bool false) rfl 196 rfl (by kernel_rfl) (by kernel_rfl) (by kernel_rfl) (by kernel_rfl) (fun _ _ _ h => h) (fun w' _ => by kernel_rfl) trivial ?_
                        simp only [Act.put, List.setIfInBounds_toArray, List.set_cons_zero, List.set_cons_succ]
                        refine wpAnyH_done (by kernel_rfl) ?_ _
                        go_wp2_with fail
                        go_roundw
                        case rel => exact ⟨⟨1, by omega, by go_num⟩, (bel_602.below (fun k hk => hk.elim) (Nat.le_refl _))⟩
                        case measure => simp [intOf]; omega
                      | succ j =>
                        have bel0 : Chg (fun _ => False) W5 wr := Chg.of_below _ bl
                        obtain ⟨x0, hx0⟩ : ∃ x0, L[j]? = some x0 := ⟨_, List.getElem?_eq_getElem (by omega)⟩
                        obtain ⟨x1, hx1⟩ : ∃ x1, L[j + 1]? = some x1 := ⟨_, List.getElem?_eq_getElem hjl⟩
                        have HC := Lib.hid (kcmp_step HUP.out hx0 hx1)
                        have kx0 : (L.map keyN)[j]? = some (keyN x0) := by rw [List.getElem?_map, hx0]; rfl
                        have kx1 : (L.map keyN)[j + 1]? = some (keyN x1) := by rw [List.getElem?_map, hx1]; rfl
                        have K0 := Lib.hid (HKK.out x0 (List.mem_of_getElem? hx0)); have K1 := Lib.hid (HKK.out x1 (List.mem_of_getElem? hx1))
                        have CC := Lib.hid (fun w0 => Od.compare_any (keyN x0) (keyN x1) w0 K0.out K1.out)
                        obtain ⟨z, hz⟩ : ∃ z, z = kcmp (keyN x0) (keyN x1) := ⟨_, rfl⟩
                        rw [← hz] at HC CC
                        clear hz
                        have dz : decide (0 ≤ z) = false := decide_eq_false (Int.not_le.2 HC.out)
                        have hAt := HA.out.below bl
                        obtain ⟨g1, o1, rfl, _, hr0⟩ := hAt.at_ j (keyN x0) kx0
                        obtain ⟨g', o', e', _, hr1⟩ := hAt.at_ (j + 1) (keyN x1) kx1
                        obtain ⟨rfl, rfl⟩ : g1 = g' ∧ o1 = o' := by simpa using e'
                        have hr0' : wr.rangeAt g1 (o1 + j * 65) (kcs (keyN x0)) := hr0
                        have hr1' : wr.rangeAt g1 (o1 + (j + 1) * 65) (kcs (keyN x1)) := hr1
                        have hjl0 : Hid (j < L.length) := Lib.hid (by omega)
                        have hjl1 : Hid (j + 1 < L.length) := Lib.hid hjl
                        have dp : decide ((((j + 1 : Nat)) : Int) > 0) = true := decide_eq_true (by omega)
                        have HSB : Hid (IntKind.i64.wrap ((((j + 1 : Nat)) : Int) - 1) = ((j : Nat) : Int)) := Lib.hid (by simp [IntKind.wrap, IntKind.bits, IntKind.signed]; omega)
                        clear hx0 hx1 kx0 kx1 hAt hr0 hr1 e' bl
                        go_wp2_with fail
                        refine wp_region_held (S := fun w' => w'.rangeAt g1 (o1 + j * 65) (kcs (keyN x0)) ∧ w'.rangeAt g1 (o1 + (j + 1) * 65) (kcs (keyN x1)) ∧ True) (by kernel_rfl) ?_
                        change wpAnyH _ _ _ _ _ _ _ _ wr.drew
                        have hd601 : Below wr.heap.size wr wr.drew := (Below.refl _ _).drew
                        have D_602 : wr.drew.rangeAt g1 (o1 + j * 65) (kcs (keyN x0)) := range_k' hr0' hd601
                        have E_602 : wr.drew.rangeAt g1 (o1 + (j + 1) * 65) (kcs (keyN x1)) := range_k' hr1' hd601
                        have bel_602 : Chg (fun _ => False) W5 wr.drew := bel0.old hd601
                        clear bel0 hd601
                        generalize wr.drew = yz601 at D_602 E_602 bel_602 ⊢
                        refine h_take 0 (.int .i64 ((j + 1 : Nat) : Int)) rfl 182 rfl (by kernel_rfl) (by kernel_rfl) (by kernel_rfl) (by kernel_rfl) (fun _ _ _ h => h) (fun w' _ => by kernel_rfl) ⟨D_602, E_602, trivial⟩ ?_
                        simp only [Act.put, List.setIfInBounds_toArray, List.set_cons_zero, List.set_cons_succ]
                        refine h_take 1 (.bool true) rfl 183 rfl (by kernel_rfl) (by kernel_rfl) (by kernel_rfl) (by kernel_rfl) (fun _ _ _ h => h) (fun w' _ => cmp_gtr _ _ _ _ rfl .i64 ((j + 1 : Nat) : Int) (0 : Int) rfl rfl true dp w') ⟨D_602, E_602, trivial⟩ ?_
                        simp only [Act.put, List.setIfInBounds_toArray, List.set_cons_zero, List.set_cons_succ]
                        refine h_take 2 (.bool true) rfl 184 rfl (by kernel_rfl) (by kernel_rfl) (by kernel_rfl) (by kernel_rfl) (fun _ _ _ h => h) (fun w' _ => by kernel_rfl) ⟨D_602, E_602, trivial⟩ ?_
                        simp only [Act.put, List.setIfInBounds_toArray, List.set_cons_zero, List.set_cons_succ]
                        refine h_take 3 (.slice (some ⟨g1, o1, none⟩) L.length kc) rfl 185 rfl (by kernel_rfl) (by kernel_rfl) (by kernel_rfl) (by kernel_rfl) (fun _ _ _ h => h) (fun w' _ => by kernel_rfl) ⟨D_602, E_602, trivial⟩ ?_
                        simp only [Act.put, List.setIfInBounds_toArray, List.set_cons_zero, List.set_cons_succ]
                        refine h_take 4 (.int .i64 ((j + 1 : Nat) : Int)) rfl 186 rfl (by kernel_rfl) (by kernel_rfl) (by kernel_rfl) (by kernel_rfl) (fun _ _ _ h => h) (fun w' _ => by kernel_rfl) ⟨D_602, E_602, trivial⟩ ?_
                        simp only [Act.put, List.setIfInBounds_toArray, List.set_cons_zero, List.set_cons_succ]
                        refine h_take 5 (.int .i64 (j : Int)) rfl 187 rfl (by kernel_rfl) (by kernel_rfl) (by kernel_rfl) (by kernel_rfl) (fun _ _ _ h => h) (fun w' _ => run_op_subW _ _ _ _ rfl ((j + 1 : Nat) : Int) 1 rfl rfl (j : Int) HSB.out w') ⟨D_602, E_602, trivial⟩ ?_
                        simp only [Act.put, List.setIfInBounds_toArray, List.set_cons_zero, List.set_cons_succ]
                        refine h_take 6 (.pointer (some ⟨g1, o1 + j * 65, none⟩)) rfl 188 rfl (by kernel_rfl) (by kernel_rfl) (by kernel_rfl) (by kernel_rfl) (fun _ _ _ h => h) (fun w' _ => Sl.run_op_index Od.fK _ _ rfl g1 o1 _ _ rfl .i64 _ rfl j rfl hjl0.out w') ⟨D_602, E_602, trivial⟩ ?_
                        simp only [Act.put, List.setIfInBounds_toArray, List.set_cons_zero, List.set_cons_succ]
                        refine h_take 7 (.agg (kcs (keyN x0)).toArray) rfl 189 rfl (by kernel_rfl) (by kernel_rfl) (by kernel_rfl) (by kernel_rfl) (fun _ _ _ h => h) (fun w' hw => run_op_load _ _ rfl g1 (o1 + j * 65) rfl (kcs (keyN x0)) hw.1 (sz_key K0.out)) ⟨D_602, E_602, trivial⟩ ?_
                        simp only [Act.put, List.setIfInBounds_toArray, List.set_cons_zero, List.set_cons_succ]
                        refine h_take 8 (.slice (some ⟨g1, o1, none⟩) L.length kc) rfl 190 rfl (by kernel_rfl) (by kernel_rfl) (by kernel_rfl) (by kernel_rfl) (fun _ _ _ h => h) (fun w' _ => by kernel_rfl) ⟨D_602, E_602, trivial⟩ ?_
                        simp only [Act.put, List.setIfInBounds_toArray, List.set_cons_zero, List.set_cons_succ]
                        refine h_take 9 (.int .i64 ((j + 1 : Nat) : Int)) rfl 191 rfl (by kernel_rfl) (by kernel_rfl) (by kernel_rfl) (by kernel_rfl) (fun _ _ _ h => h) (fun w' _ => by kernel_rfl) ⟨D_602, E_602, trivial⟩ ?_
                        simp only [Act.put, List.setIfInBounds_toArray, List.set_cons_zero, List.set_cons_succ]
                        refine h_take 10 (.pointer (some ⟨g1, o1 + (j + 1) * 65, none⟩)) rfl 192 rfl (by kernel_rfl) (by kernel_rfl) (by kernel_rfl) (by kernel_rfl) (fun _ _ _ h => h) (fun w' _ => Sl.run_op_index Od.fK _ _ rfl g1 o1 _ _ rfl .i64 _ rfl (j + 1) rfl hjl1.out w') ⟨D_602, E_602, trivial⟩ ?_
                        simp only [Act.put, List.setIfInBounds_toArray, List.set_cons_zero, List.set_cons_succ]
                        refine h_take 11 (.agg (kcs (keyN x1)).toArray) rfl 193 rfl (by kernel_rfl) (by kernel_rfl) (by kernel_rfl) (by kernel_rfl) (fun _ _ _ h => h) (fun w' hw => run_op_load _ _ rfl g1 (o1 + (j + 1) * 65) rfl (kcs (keyN x1)) hw.2.1 (sz_key K1.out)) ⟨D_602, E_602, trivial⟩ ?_
                        simp only [Act.put, List.setIfInBounds_toArray, List.set_cons_zero, List.set_cons_succ]
                        refine h_one (i := 12) (by kernel_rfl) (o_call rfl 194 rfl (by kernel_rfl) (run_op_call 15 _ _ rfl #[.agg (kcs (keyN x0)).toArray, .agg (kcs (keyN x1)).toArray] (by simp only [List.map_toArray, List.map_cons, List.map_nil]; rfl) Tryd.func15 (by kernel_rfl) (by kernel_rfl) _) (CC.out _) ?_)
                        rintro e y603 ⟨rfl, hB⟩
                        have D_604 : y603.rangeAt g1 (o1 + j * 65) (kcs (keyN x0)) := range_k' D_602 hB
                        have E_604 : y603.rangeAt g1 (o1 + (j + 1) * 65) (kcs (keyN x1)) := range_k' E_602 hB
                        have bel_604 : Chg (fun _ => False) W5 y603 := bel_602.old hB
                        clear D_602 E_602 bel_602 hB
                        refine ⟨_, rfl, ⟨D_604, E_604, trivial⟩, ?_⟩
                        simp only [Act.put, List.setIfInBounds_toArray, List.set_cons_zero, List.set_cons_succ]
                        refine h_take 13 (.bool false) rfl 195 rfl (by kernel_rfl) (by kernel_rfl) (by kernel_rfl) (by kernel_rfl) (fun _ _ _ h => h) (fun w' _ => cmp_geq _ _ _ _ rfl .i64 z 0 rfl rfl false dz w') ⟨D_604, E_604, trivial⟩ ?_
                        simp only [Act.put, List.setIfInBounds_toArray, List.set_cons_zero, List.set_cons_succ]
                        refine h_take 14 (.bool false) rfl 196 rfl (by kernel_rfl) (by kernel_rfl) (by kernel_rfl) (by kernel_rfl) (fun _ _ _ h => h) (fun w' _ => by kernel_rfl) ⟨D_604, E_604, trivial⟩ ?_
                        simp only [Act.put, List.setIfInBounds_toArray, List.set_cons_zero, List.set_cons_succ]
                        refine wpAnyH_done (by kernel_rfl) ?_ _
                        go_wp2_with fail
                        go_roundw
                        case rel => exact ⟨⟨j + 2, by omega, by go_num⟩, (bel_604.below (fun k hk => hk.elim) (Nat.le_refl _))⟩
                        case measure => simp [intOf]; omega
                    · skip
                      obtain rfl : j = L.length := by omega
                      have HVX := Lib.hid (HV.out.old bl)
                      have HBB := Lib.hid (HBL.out.trans (bl.mono HBL.out.size))
                      clear bl hjl hj
                      go_wp2_with fail
                      go_roundw
                      case rel => exact ⟨⟨k + 1, by omega, by go_num⟩, ⟨F, L, pin, HVX.out, fr⟩, HBB.out⟩
                      case measure => simp [intOf]; omega
        · skip
          obtain rfl : k = l.length := by omega
          have HB := Lib.hid bel
          clear bel bel0 hV fr
          go_wp2_with fail
          go_ret
          exact ⟨rfl, HB.out⟩
  · skip
    go_wp2_with (first
      | ((with_reducible refine at_slot 37 ?_); (refine arm_want (.bool true) 37 rfl (by kernel_rfl) (run_op_eqlP' _ _ _ (by kernel_rfl) _ _ rfl none rfl rfl true rfl _) ?_); try simp only [Act.put, List.setIfInBounds_toArray, List.set_cons_zero, List.set_cons_succ]))
    go_ret
    exact ⟨rfl, (bel_3.below (fun k hk => hk.elim) (Nat.le_refl _))⟩
end Go.Proofs.YtnjmocobncncdaaDoor.So
