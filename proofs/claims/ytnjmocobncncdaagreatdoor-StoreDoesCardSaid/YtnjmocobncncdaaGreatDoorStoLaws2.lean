/-
  The walk of layer 19's statement StoreDoes, out of the contracts: it returns true, and changes nothing that was there. Over this seat's translation.
-/
import Derived.Test.YtnjmocobncncdaaGreatDoorStoActs
import Derived.Test.YtnjmocobncncdaaGreatDoorStoLKeys
import Derived.Test.YtnjmocobncncdaaGreatDoorStoLOwn
import Derived.Test.YtnjmocobncncdaaGreatDoorStoRefB
import Derived.Test.YtnjmocobncncdaaGreatDoorStoRefA
import Derived.Test.YtnjmocobncncdaaGreatDoorStaRHash
import Derived.Test.YtnjmocobncncdaaGreatDoorMemAll
import Derived.Deep.DeepCutAuto
import Derived.Deep.CutBlock
namespace Go.Proofs.YtnjmocobncncdaaGreatDoor.So
open Go.ChangeShapes Go.WideShapes Go.ChangeAt Go.RowKit Go.Proofs.YtnjmocobncncdaaGreatDoor.Mem Go.Proofs.YtnjmocobncncdaaGreatDoor.Bt Go.Proofs.YtnjmocobncncdaaGreatDoor.Km
open Go.Proofs.YtnjmocobncncdaaGreatDoor.Ep (H32 zh zh_ok Has h_len szH zH fitH allH one_app num32)
open Go.Proofs.YtnjmocobncncdaaGreatDoor.Sl (Kind At bk)
open Go.Proofs.YtnjmocobncncdaaGreatDoor.Sha (ks)
open Go.Proofs.YtnjmocobncncdaaGreatDoor.Sa (Sta scs digS digS_ok zs zs_ok z_sta sz_sta scs_one fitS allS h_drw h_lngth)
open Go.Proofs.YtnjmocobncncdaaGreatDoor.Od (Ky kcs keyN keyN_ok kcs_len kcs_one kcmp kval zk z_key sz_key fitK allK built_key compare_anyD)
set_option linter.unusedVariables false
set_option linter.unusedSimpArgs false

open Go.Proofs.YtnjmocobncncdaaGreatDoor.Od (kRK fRK)
open Go.Proofs.YtnjmocobncncdaaGreatDoor.Lk (kR fR)
theorem range_s {w w' : World} {g o : Nat} {x : Sta} (k : x.Ok) (h : w.rangeAt g o (scs x)) (hb : Below w.heap.size w w') : w'.rangeAt g o (scs x) :=
  range_block h (hb.block g (range_lt h (fun e => by have := congrArg List.length e; rw [Sa.scs_len k] at this; cases this)))
theorem run_op_neqBB' {o : Oper} {a : Act} (x y : Operand) (t' : TypeId) (ho : o.op = .binOp .neq 4 x y t') (p q : Bool) (hx : a.eval x = .bool p) (hy : a.eval y = .bool q) (r : Bool) (hr : (p != q) = r) (w : World) : (execOp a.eval o).run Tryz.prog w = .ok (.value (.bool r)) w := by
  subst hr
  unfold execOp
  cases p <;> cases q <;> simp only [ho, hx, hy] <;> kernel_rfl
theorem find_parts {L : List Sta} {h : List Nat} {r : Nat} {pin : Option (List Nat)} (ok : SOk vK digS r pin L) :
    (hasB h L = true ∧ ∃ n : Nat, posI (L.map keyN) h = (n : Int) ∧ n < L.length ∧ L[n]? = some ((getS L h).getD zs)) ∨ (hasB h L = false ∧ posI (L.map keyN) h = -1 ∧ (getS L h).getD zs = zs) := by
  by_cases hb : hasB h L = true
  · left
    have e := pos_has L h
    rw [hb] at e
    obtain ⟨n, hn⟩ := Option.isSome_iff_exists.1 e
    obtain ⟨k, hk, he⟩ := pos_lt hn
    rw [List.getElem?_map] at hk
    obtain ⟨x, hx, rfl⟩ := Option.map_eq_some_iff.1 hk
    have hd : digS x = h := he
    subst hd
    exact ⟨hb, n, by unfold posI; rw [hn], (List.getElem?_eq_some_iff.1 hx).1, by rw [get_dg ok.dg (List.mem_of_getElem? hx)]; exact hx⟩
  · right
    have hf := Bool.eq_false_iff.2 hb
    refine ⟨hf, posI_no hb, ?_⟩
    cases e : getS L h with
    | none => rfl
    | some x => have q := get_has (L := L) (h := h); rw [e, hf] at q; cases q
section
variable {F : Nat → Prop} {S r : Nat} {pin : Option (List Nat)} {L : List Sta} {w : World}
theorem rput_to {M : List Sta} {g : Option Sta} {d : List Nat} {v : Bool} (x : Sta) (hC : RSAt w F S r pin L) (hl : L.length ≤ r) (hr : 2 ≤ r ∧ r ≤ 100) (kx : x.Ok) (hk : w.rangeAt 0 0 (u32s ks)) (e : putL r pin x L = (M, g)) (e2 : (g.map digS).getD zh = d) (e3 : g.isSome = v) :
    Calls Tryz.prog 10 #[.pointer (some ⟨S, 0, none⟩), .agg (scs x).toArray] w fun e w' => e = .returned (.tuple #[.agg (u8s d).toArray, .bool v]) ∧ (∃ F', RSAt w' F' S r pin M ∧ Grew F F' w.heap.size) ∧ Chg F w w' := by
  subst e2 e3
  exact (rsput_any F S r pin L x w hC hl hr kx hk).mono fun e' w' q => ⟨by rw [q.ret, e], by have := q.at_; rw [e] at this; exact this, q.chg⟩
theorem rkeep_to {M : List Sta} {g : Option Sta} {d : List Nat} {v : Bool} (x : Sta) (hC : RSAt w F S r pin L) (hl : L.length ≤ r) (hr : 2 ≤ r ∧ r ≤ 100) (kx : x.Ok) (hk : w.rangeAt 0 0 (u32s ks)) (e : putL r (some (digS x)) x L = (M, g)) (e2 : (g.map digS).getD zh = d) (e3 : g.isSome = v) :
    Calls Tryz.prog 14 #[.pointer (some ⟨S, 0, none⟩), .agg (scs x).toArray] w fun e w' => e = .returned (.tuple #[.agg (u8s d).toArray, .bool v]) ∧ (∃ F', RSAt w' F' S r (some (digS x)) M ∧ Grew F F' w.heap.size) ∧ Chg F w w' := by
  subst e2 e3
  exact (rskeep_any F S r pin L x w hC hl hr kx hk).mono fun e' w' q => ⟨by rw [q.ret, e], by have := q.at_; rw [e] at this; exact this, q.chg⟩
theorem rfind_to {h : List Nat} {z : Int} (hC : RSAt w F S r pin L) (hh : H32 h) (hl : L.length ≤ 1000) (e : posI (L.map keyN) h = z) :
    Calls Tryz.prog 16 #[.pointer (some ⟨S, 0, none⟩), .agg (u8s h).toArray] w fun e w' => e = .returned (.int .i64 z) ∧ Below w.heap.size w w' := by
  subst e
  exact rsfind_any F S r pin L h w hC hh hl
theorem keys_to {P : Option Addr} {pc : Nat} (hs : Sl.At Od.kK w P (L.map keyN)) (hl : L.length ≤ 1000) :
    Calls Tryz.prog 20 #[.slice P L.length pc] w fun e w' => (∃ p c, e = .returned (.slice p L.length c) ∧ Sl.Own kRK w' 0 p c (L.map keyN)) ∧ Below w.heap.size w w' := by
  have e : (L.map keyN).length = L.length := List.length_map _
  rw [← e]
  refine (keysL_any (L.map keyN) P pc w hs (by rw [e]; exact hl)).mono fun e w' h => ?_
  obtain ⟨⟨p, c, h1, h2⟩, h3⟩ := h
  exact ⟨⟨p, c, h1, h2.low (Nat.zero_le _)⟩, h3⟩
theorem same_to {p q : Option Addr} {cp cq : Nat} (hp : Sl.At kRK w p (L.map keyN)) (hq : Sl.At kRK w q (L.map keyN)) (hl : L.length ≤ 1000) :
    Calls Tryz.prog 19 #[.slice p L.length cp, .slice q L.length cq] w fun e w' => e = .returned (.bool true) ∧ Below w.heap.size w w' := by
  have e : (L.map keyN).length = L.length := List.length_map _
  rw [← e]
  refine (rssame_any (L.map keyN) (L.map keyN) p q cp cq w hp hq (by rw [e]; omega)).mono fun e w' h => ?_
  obtain ⟨⟨b, h1, h2⟩, h3⟩ := h
  rw [h2.2 rfl] at h1
  exact ⟨h1, h3⟩
end
theorem ncs_pin {pl : Option Addr} {n cl : Nat} {pk : Option Addr} {m ck r : Nat} {pin : Option (List Nat)} : Has (ncs pl n cl pk m ck r pin) 4 (u8s (pin.getD zh)) :=
  (Has.refl (ncs pl n cl pk m ck r pin)).right (a := [.slice pl n cl, .slice pk m ck, .int .i64 (r : Int), .bool pin.isSome]) 4 rfl
structure SdRel (w : World) (S T r : Nat) (l : List Sact) (i : Value) (wr : World) : Prop where
  ex : ∃ k : Nat, k ≤ l.length ∧ i = .int .i64 (k : Int)
  st : ∃ F G L pin, PAt wr F S r pin L ∧ RSAt wr G T r pin L ∧ From F w.heap.size ∧ From G w.heap.size ∧ Sep F G
  bel : Below w.heap.size w wr
structure SxRel (w : World) (S T r H : Nat) (s : Sta) (wx : World) : Prop where
  st : ∃ F G L pin, PAt wx F S r pin L ∧ RSAt wx G T r pin L ∧ From F w.heap.size ∧ From G w.heap.size ∧ Sep F G ∧ ¬ F H ∧ ¬ G H
  rh : Row wx H 32 (u8s (digS s))
  bel : Below w.heap.size w wx
set_option maxHeartbeats 4000000 in
set_option maxRecDepth 100000 in
theorem storeDoes_any (room : Int) (l : List Sact) (P : Option Addr) (pc : Nat) (w : World) (hs : Sl.At kA w P l) (hk : w.rangeAt 1 0 (u32s ks)) (hz : w.rangeAt 0 0 (u32s ks)) :
    Calls Tryz.prog 3 #[.int .i64 room, .slice P l.length pc] w fun e w' => e = .returned (.bool true) ∧ Below w.heap.size w w' := by
  have hk1 : 1 < w.heap.size := range_lt hk (by simp [u32s, ks])
  have HKW : Hid (∀ w', Below w.heap.size w w' → w'.rangeAt 1 0 (u32s ks)) := Lib.hid fun w' hb => range_block hk (hb.block _ hk1)
  have hz1 : 0 < w.heap.size := range_lt hz (by simp [u32s, ks])
  have HKZ : Hid (∀ w', Below w.heap.size w w' → w'.rangeAt 0 0 (u32s ks)) := Lib.hid fun w' hb => range_block hz (hb.block _ hz1)
  have HS := Lib.hid hs
  have CA := Lib.hid (fun w0 h => awake_any w0 h)
  have CN := Lib.hid (fun w0 => snew_any room w0)
  have CR := Lib.hid (fun w0 => rsnew_any room w0)
  have CH := Lib.hid (fun x kx w0 h => Sa.rhash_any x w0 kx h)
  have CO := Lib.hid (fun x kx w0 => Sa.own19_any x w0 kx)
  clear hs hk hk1 hz hz1
  by_cases hbig : 40 < l.length
  · have hbd : decide (40 < (l.length : Int)) = true := decide_eq_true (by omega)
    go_enter Tryz.func3, Tryz.ntmps3
    have bel0 : Chg (fun _ => False) w w := Chg.refl _ _
    go_wp2_with fail
    refine (CA.out _ (HKW.out _ (bel0.below (fun k hk => hk.elim) (Nat.le_refl _)))).mono ?_
    rintro e y1 ⟨rfl, hB⟩
    have bel_2 : Chg (fun _ => False) w y1 := bel0.old hB
    clear bel0 hB
    go_wp2_with (first
      | ((with_reducible refine at_slot 29 ?_); (refine arm_want (.bool true) 29 rfl (by kernel_rfl) (cmp_gtr _ _ _ _ rfl .i64 ((l.length : Int)) (40) rfl rfl true (hbd) _) ?_); try simp only [Act.put, List.setIfInBounds_toArray, List.set_cons_zero, List.set_cons_succ]))
    go_ret
    exact ⟨rfl, (bel_2.below (fun k hk => hk.elim) (Nat.le_refl _))⟩
  · have hbd : decide (40 < (l.length : Int)) = false := decide_eq_false (by omega)
    have HLL : Hid (l.length ≤ 40) := Lib.hid (by omega)
    clear hbig
    go_enter Tryz.func3, Tryz.ntmps3
    have bel0 : Chg (fun _ => False) w w := Chg.refl _ _
    go_wp2_with fail
    refine (CA.out _ (HKW.out _ (bel0.below (fun k hk => hk.elim) (Nat.le_refl _)))).mono ?_
    rintro e y1 ⟨rfl, hB⟩
    have bel_2 : Chg (fun _ => False) w y1 := bel0.old hB
    clear bel0 hB
    go_wp2_with (first
      | ((with_reducible refine at_slot 29 ?_); (refine arm_want (.bool false) 29 rfl (by kernel_rfl) (cmp_gtr _ _ _ _ rfl .i64 ((l.length : Int)) (40) rfl rfl false (hbd) _) ?_); try simp only [Act.put, List.setIfInBounds_toArray, List.set_cons_zero, List.set_cons_succ]))
    refine (CN.out _).mono ?_
    rintro e y0 ⟨hN, hB⟩
    have hsz0 := bel_2.size
    have bel_3 : Chg (fun _ => False) w y0 := bel_2.old hB
    clear bel_2 hB
    rcases hN with ⟨hr1, hr2, S, F0, rfl, hV, fr0⟩ | ⟨hN, rfl⟩
    · skip
      replace fr0 : From F0 w.heap.size := fun k hk => Nat.le_trans hsz0 (fr0 k hk)
      clear hsz0 hbd
      obtain ⟨r, hr⟩ : ∃ r, r = room.toNat := ⟨_, rfl⟩
      rw [← hr] at hV
      have hr100 : r ≤ 100 := by omega
      have HR100 := Lib.hid hr100
      go_wp2_with fail
      refine (CR.out _).mono ?_
      rintro e y1 ⟨hN, hB⟩
      have hl0 := hV.lies; have hsz := bel_3.size
      have V_4 : PAt y1 F0 S r none ([]) := hV.old hB
      have bel_4 : Chg (fun _ => False) w y1 := bel_3.old hB
      clear hV bel_3 hB
      rcases hN with ⟨_, _, T, G0, rfl, hU, gr0⟩ | ⟨hN, rfl⟩
      case inr => exact absurd ⟨hr1, hr2⟩ hN
      rw [← hr] at hU
      have hFG : Sep F0 G0 := fun k h1 h2 => by have := hl0 k h1; have := gr0 k h2; omega
      have gr1 : From G0 w.heap.size := fun k hk => by have := gr0 k hk; omega
      clear hl0 hsz gr0 hr hr1 hr2 hr100
      try simp only [Act.put]
      go_wp2_with (first
        | ((with_reducible refine at_slot 42 ?_); (refine arm_want (.bool false) 42 rfl (by kernel_rfl) (cmp_neq _ _ .i64 (by kernel_rfl) _ _ rfl .i64 (0 : Int) (0 : Int) rfl rfl false rfl _) ?_); try simp only [Act.put, List.setIfInBounds_toArray, List.set_cons_zero, List.set_cons_succ])
        | ((with_reducible refine at_slot 45 ?_); (refine arm_want (.bool false) 45 rfl (by kernel_rfl) (run_op_eqlP' _ _ _ (by kernel_rfl) _ _ rfl (some _) rfl rfl false rfl _) ?_); try simp only [Act.put, List.setIfInBounds_toArray, List.set_cons_zero, List.set_cons_succ])
        | ((with_reducible refine at_slot 47 ?_); (refine arm_want (.bool false) 47 rfl (by kernel_rfl) (run_op_eqlP' _ _ _ (by kernel_rfl) _ _ rfl (some _) rfl rfl false rfl _) ?_); try simp only [Act.put, List.setIfInBounds_toArray, List.set_cons_zero, List.set_cons_succ])
        | ((with_reducible refine at_slot 48 ?_); (refine arm_want (.bool false) 48 rfl (by kernel_rfl) (run_op_neqBB' _ _ _ rfl false false rfl rfl false rfl _) ?_); try simp only [Act.put, List.setIfInBounds_toArray, List.set_cons_zero, List.set_cons_succ])
        | ((with_reducible refine at_slot 51 ?_); (refine arm_want (.bool false) 51 rfl (by kernel_rfl) (run_op_eqlP' _ _ _ (by kernel_rfl) _ _ rfl (some _) rfl rfl false rfl _) ?_); try simp only [Act.put, List.setIfInBounds_toArray, List.set_cons_zero, List.set_cons_succ]))
      try simp only [Act.put]
      have h0 : SdRel w S T r l (.int .i64 0) y1 := ⟨⟨0, Nat.zero_le _, rfl⟩, ⟨F0, G0, [], none, V_4, hU, fr0, gr1, hFG⟩, (bel_4.below (fun k hk => hk.elim) (Nat.le_refl _))⟩
      clear V_4 hU bel_4 fr0 gr1 hFG CN CA CR
      go_loopw [54] (fun i wr => SdRel w S T r l i wr) (fun i _ => l.length - (intOf i).toNat)
      case atStart => exact h0
      case round =>
        clear h0
        obtain ⟨⟨k, hk, rfl⟩, ⟨F, G, L, pin, hV, hU, fr, gr, hFG⟩, bel⟩ := hrel
        have bel0 : Chg (fun _ => False) w wr := Chg.of_below _ bel
        by_cases hlt : k < l.length
        · skip
          have hk40 : k < 40 := by have := HLL.out; omega
          obtain ⟨a, g, o, hx, kx, hP, hgl, hrx⟩ := (HS.out.below bel).get hlt
          subst hP
          have ik : (k : Int) < (l.length : Int) := by omega
          have KA := Lib.hid kx; have KH := Lib.hid (digS_ok a.s)
          have hrx2 : wr.rangeAt g (o + k * 364) (sac a) := hrx
          have hlV := Lib.hid hV.lies; have hlU := Lib.hid hU.lies
          clear hx kx hrx bel
          go_wp2_with (first
            | ((with_reducible refine at_slot 56 ?_); (refine arm_want (.pointer (some ⟨g, o + k * 364, none⟩)) 56 rfl (by kernel_rfl) (Sl.run_op_index fA _ _ rfl g o _ _ rfl .i64 _ rfl k rfl hlt _) ?_); try simp only [Act.put, List.setIfInBounds_toArray, List.set_cons_zero, List.set_cons_succ])
            | ((with_reducible refine at_slot 57 ?_); (refine arm_load (o := ⟨some 57, _, _, _, _, _⟩) rfl _ _ rfl g (o + k * 364) rfl (sac a) (hrx2) (sz_sac KA.out) ?_); try simp only [Act.put, List.setIfInBounds_toArray, List.set_cons_zero, List.set_cons_succ])
            | ((with_reducible refine at_slot 10 ?_); (refine arm_alloc (o := ⟨some 10, _, _, _, _, _⟩) rfl _ rfl (sac zsa) z_sac ?_); intro A v101a Ae hAa nA; try simp only [Act.put, List.setIfInBounds_toArray, List.set_cons_zero, List.set_cons_succ])
            | ((with_reducible refine arm_store (o := ⟨none, _, _, _, _, _⟩) rfl _ _ _ rfl A 0 rfl (sac a) rfl _ _ hAa (fitSa KA.out) (sac_one _) (sz_sac KA.out) ?_); intro v101 hAb oA sA; try simp only [Act.put, List.setIfInBounds_toArray, List.set_cons_zero, List.set_cons_succ])
            | ((with_reducible refine at_slot 59 ?_); (refine arm_load (o := ⟨some 59, _, _, _, _, _⟩) rfl _ _ rfl A 1 rfl (scs a.s) ((sac_s a).range (hAb.congr (allSa KA.out))) (sz_sta KA.out.s) ?_); try simp only [Act.put, List.setIfInBounds_toArray, List.set_cons_zero, List.set_cons_succ]))
          have lA : wr.heap.size ≤ A := by have := Ae.out; omega
          have bA : Below wr.heap.size wr v101 := below_only nA.below oA lA nA.below.size
          have rrA : Row v101 A 46 (sac a) := hAb.congr (allSa KA.out)
          have geA : w.heap.size ≤ A := Nat.le_trans bel0.size lA
          have lAx := lA
          clear hAa hAb nA oA sA Ae lA
          have V_102 : PAt v101 F S r pin (L) := hV.old bA
          have U_102 : RSAt v101 G T r pin (L) := hU.old bA
          have bel_102 : Chg (fun _ => False) w v101 := bel0.old bA
          clear hV hU bel0 bA
          have nA : ¬ F A := fun q => by have := hlV.out A q; omega
          have gA : ¬ G A := fun q => by have := hlU.out A q; omega
          clear hlV hlU hrx2
          refine (CO.out a.s KA.out.s _).mono ?_
          rintro e y103 ⟨rfl, hB⟩
          have V_104 : PAt y103 F S r pin (L) := V_102.old hB
          have U_104 : RSAt y103 G T r pin (L) := U_102.old hB
          have A_104 : Row y103 A 46 (sac a) := rrA.old hB
          have bel_104 : Chg (fun _ => False) w y103 := bel_102.old hB
          clear V_102 U_102 rrA bel_102 hB
          go_wp2_with fail
          refine (CH.out a.s KA.out.s _ (HKZ.out _ (bel_104.below (fun k hk => hk.elim) (Nat.le_refl _)))).mono ?_
          rintro e y105 ⟨rfl, hB⟩
          have V_106 : PAt y105 F S r pin (L) := V_104.old hB
          have U_106 : RSAt y105 G T r pin (L) := U_104.old hB
          have A_106 : Row y105 A 46 (sac a) := A_104.old hB
          have bel_106 : Chg (fun _ => False) w y105 := bel_104.old hB
          clear V_104 U_104 A_104 bel_104 hB
          have lF := Lib.hid V_106.lies; have lG := Lib.hid U_106.lies
          go_wp2_with (first
            | ((with_reducible refine at_slot 11 ?_); (refine arm_alloc (o := ⟨some 11, _, _, _, _, _⟩) rfl _ rfl (u8s zh) zH ?_); intro H v107a He hHa nH; try simp only [Act.put, List.setIfInBounds_toArray, List.set_cons_zero, List.set_cons_succ])
            | ((with_reducible refine arm_store (o := ⟨none, _, _, _, _, _⟩) rfl _ _ _ rfl H 0 rfl (u8s (digS a.s)) rfl _ _ hHa (fitH KH.out) (u8s_one _) (szH KH.out) ?_); intro v107 hHb oH sH; try simp only [Act.put, List.setIfInBounds_toArray, List.set_cons_zero, List.set_cons_succ]; refine fpause ?_; try simp only [Act.put, List.setIfInBounds_toArray, List.set_cons_zero, List.set_cons_succ]))
          have lH : y105.heap.size ≤ H := by have := He.out; omega
          have bH : Below y105.heap.size y105 v107 := below_only nH.below oH lH nH.below.size
          have rrH : Row v107 H 32 (u8s (digS a.s)) := hHb.congr (allH KH.out)
          have geH : w.heap.size ≤ H := Nat.le_trans bel_106.size lH
          have lHx := lH
          clear hHa hHb nH oH sH He lH
          have V_108 : PAt v107 F S r pin (L) := V_106.old bH
          have U_108 : RSAt v107 G T r pin (L) := U_106.old bH
          have A_108 : Row v107 A 46 (sac a) := A_106.old bH
          have bel_108 : Chg (fun _ => False) w v107 := bel_106.old bH
          clear V_106 U_106 A_106 bel_106 bH
          refine fgo ?_
          have nH : ¬ F H := fun q => by have := lF.out H q; omega
          have gH : ¬ G H := fun q => by have := lG.out H q; omega
          clear lF lG
          have X0 := Lib.hid (sac_d a)
          obtain ⟨d, hd⟩ : ∃ d, d = a.doo := ⟨_, rfl⟩
          rw [← hd] at X0
          clear hd
          have hc0 := A_108.cell X0.out
          go_upto_block 2 with (first | ((with_reducible refine at_slot 63 ?_); (refine arm_want (.int .i64 d) 63 rfl (by kernel_rfl) (run_op_load1 _ _ rfl (.int .i64) (by kernel_rfl) rfl ⟨A, 0, none⟩ rfl (.int .i64 d) hc0) ?_)))
          clear hc0
          try simp only [Act.put, List.setIfInBounds_toArray, List.set_cons_zero, List.set_cons_succ]
          go_cut [] (fun wx => SxRel w S T r H a.s wx)
          case first => as_aux_lemma =>
            by_cases h0 : d = 0
            · skip
              have H0 := Lib.hid h0
              clear h0
              obtain ⟨q, hq⟩ : ∃ q, q = putL r pin a.s L := ⟨_, rfl⟩
              obtain ⟨M, gg⟩ := q
              have HQ := Lib.hid hq
              clear hq
              obtain ⟨dg, hdg⟩ : ∃ dg, (gg.map digS).getD zh = dg := ⟨_, rfl⟩
              obtain ⟨vg, hvg⟩ : ∃ vg, gg.isSome = vg := ⟨_, rfl⟩
              have KD : Hid (H32 dg) := Lib.hid (by
                rw [← hdg]
                cases gg with
                | none => exact zh_ok
                | some y => exact digS_ok y)
              have HD := Lib.hid hdg; have HVG := Lib.hid hvg
              clear hdg hvg
              have HLR := Lib.hid V_108.ok.len; have H2R := Lib.hid V_108.ok.two
              go_wp2_with (first
                | ((with_reducible refine at_slot 65 ?_); (refine arm_want (.bool true) 65 rfl (by kernel_rfl) (cmp_eql _ _ .i64 (by kernel_rfl) _ _ rfl .i64 (d) (0) rfl rfl true (decide_eq_true H0.out) _) ?_); try simp only [Act.put, List.setIfInBounds_toArray, List.set_cons_zero, List.set_cons_succ])
                | ((with_reducible refine at_slot 69 ?_); (refine arm_load (o := ⟨some 69, _, _, _, _, _⟩) rfl _ _ rfl A 1 rfl (scs a.s) ((sac_s a).range A_108) (sz_sta KA.out.s) ?_); try simp only [Act.put, List.setIfInBounds_toArray, List.set_cons_zero, List.set_cons_succ]))
              refine (put_to (d := dg) (v := vg) a.s V_108 KA.out.s HR100.out (HKW.out _ (bel_108.below (fun k hk => hk.elim) (Nat.le_refl _))) HQ.out.symm HD.out HVG.out).mono ?_
              rintro e yP109 ⟨rfl, ⟨F2, hV2, hG2⟩, hc⟩
              have mA := notF_grew nA hG2 A_108.lt
              have mH := notF_grew nH hG2 rrH.lt
              have fr2 := hG2.from fr bel_108.size
              have hFG2 := hFG.grew hG2 U_108.lies
              have V_110 : PAt yP109 F2 S r pin (M) := hV2
              have U_110 : RSAt yP109 G T r pin (L) := U_108.chg hc hFG
              have A_110 : Row yP109 A 46 (sac a) := A_108.chg hc nA
              have H_110 : Row yP109 H 32 (u8s (digS a.s)) := rrH.chg hc nH
              have bel_110 : Chg (fun _ => False) w yP109 := bel_108.fresh hc fr
              clear V_108 U_108 A_108 rrH bel_108 hc
              clear nA
              have nA := mA
              clear mA
              clear nH
              have nH := mH
              clear mH
              clear hG2 hFG fr
              have hFG := hFG2; have fr := fr2
              clear hFG2 fr2
              have lG := Lib.hid U_110.lies
              go_wp2_with (first
                | ((with_reducible refine at_slot 12 ?_); (refine arm_alloc (o := ⟨some 12, _, _, _, _, _⟩) rfl _ rfl (u8s zh) zH ?_); intro B v111a Be hBa nB; try simp only [Act.put, List.setIfInBounds_toArray, List.set_cons_zero, List.set_cons_succ])
                | ((with_reducible refine arm_store (o := ⟨none, _, _, _, _, _⟩) rfl _ _ _ rfl B 0 rfl (u8s dg) rfl _ _ hBa (fitH KD.out) (u8s_one _) (szH KD.out) ?_); intro v111 hBb oB sB; try simp only [Act.put, List.setIfInBounds_toArray, List.set_cons_zero, List.set_cons_succ]; refine fpause ?_; try simp only [Act.put, List.setIfInBounds_toArray, List.set_cons_zero, List.set_cons_succ]))
              have lB : yP109.heap.size ≤ B := by have := Be.out; omega
              have bB : Below yP109.heap.size yP109 v111 := below_only nB.below oB lB nB.below.size
              have rrB : Row v111 B 32 (u8s dg) := hBb.congr (allH KD.out)
              have geB : w.heap.size ≤ B := Nat.le_trans bel_110.size lB
              have lBx := lB
              clear hBa hBb nB oB sB Be lB
              have V_112 : PAt v111 F2 S r pin (M) := V_110.old bB
              have U_112 : RSAt v111 G T r pin (L) := U_110.old bB
              have A_112 : Row v111 A 46 (sac a) := A_110.old bB
              have H_112 : Row v111 H 32 (u8s (digS a.s)) := H_110.old bB
              have bel_112 : Chg (fun _ => False) w v111 := bel_110.old bB
              clear V_110 U_110 A_110 H_110 bel_110 bB
              refine fgo ?_
              have gB : ¬ G B := fun q => by have := lG.out B q; omega
              clear lG
              go_wp2_with (first
                | ((with_reducible refine at_slot 76 ?_); (refine arm_load (o := ⟨some 76, _, _, _, _, _⟩) rfl _ _ rfl A 1 rfl (scs a.s) ((sac_s a).range A_112) (sz_sta KA.out.s) ?_); try simp only [Act.put, List.setIfInBounds_toArray, List.set_cons_zero, List.set_cons_succ]))
              refine (CO.out a.s KA.out.s _).mono ?_
              rintro e y113 ⟨rfl, hB⟩
              have V_114 : PAt y113 F2 S r pin (M) := V_112.old hB
              have U_114 : RSAt y113 G T r pin (L) := U_112.old hB
              have A_114 : Row y113 A 46 (sac a) := A_112.old hB
              have H_114 : Row y113 H 32 (u8s (digS a.s)) := H_112.old hB
              have B_114 : Row y113 B 32 (u8s dg) := rrB.old hB
              have bel_114 : Chg (fun _ => False) w y113 := bel_112.old hB
              clear V_112 U_112 A_112 H_112 rrB bel_112 hB
              go_wp2_with fail
              refine (rput_to (d := dg) (v := vg) a.s U_114 HLR.out ⟨H2R.out, HR100.out⟩ KA.out.s (HKZ.out _ (bel_114.below (fun k hk => hk.elim) (Nat.le_refl _))) HQ.out.symm HD.out HVG.out).mono ?_
              rintro e yP115 ⟨rfl, ⟨G2, hV2, hG2⟩, hc⟩
              have mA := notF_grew gA hG2 A_114.lt
              have mH := notF_grew gH hG2 H_114.lt
              have mB := notF_grew gB hG2 B_114.lt
              have gr2 := hG2.from gr bel_114.size
              have hFG2 := (hFG.symm.grew hG2 V_114.lies).symm
              have V_116 : PAt yP115 F2 S r pin (M) := V_114.chg hc hFG.symm
              have U_116 : RSAt yP115 G2 T r pin (M) := hV2
              have A_116 : Row yP115 A 46 (sac a) := A_114.chg hc gA
              have H_116 : Row yP115 H 32 (u8s (digS a.s)) := H_114.chg hc gH
              have B_116 : Row yP115 B 32 (u8s dg) := B_114.chg hc gB
              have bel_116 : Chg (fun _ => False) w yP115 := bel_114.fresh hc gr
              clear V_114 U_114 A_114 H_114 B_114 bel_114 hc
              clear gA
              have gA := mA
              clear mA
              clear gH
              have gH := mH
              clear mH
              clear gB
              have gB := mB
              clear mB
              clear hG2 hFG gr
              have hFG := hFG2; have gr := gr2
              clear hFG2 gr2
              go_wp2_with (first
                | ((with_reducible refine at_slot 14 ?_); (refine arm_alloc (o := ⟨some 14, _, _, _, _, _⟩) rfl _ rfl (u8s zh) zH ?_); intro C v117a Ce hCa nC; try simp only [Act.put, List.setIfInBounds_toArray, List.set_cons_zero, List.set_cons_succ])
                | ((with_reducible refine arm_store (o := ⟨none, _, _, _, _, _⟩) rfl _ _ _ rfl C 0 rfl (u8s dg) rfl _ _ hCa (fitH KD.out) (u8s_one _) (szH KD.out) ?_); intro v117 hCb oC sC; try simp only [Act.put, List.setIfInBounds_toArray, List.set_cons_zero, List.set_cons_succ]; refine fpause ?_; try simp only [Act.put, List.setIfInBounds_toArray, List.set_cons_zero, List.set_cons_succ]))
              have lC : yP115.heap.size ≤ C := by have := Ce.out; omega
              have bC : Below yP115.heap.size yP115 v117 := below_only nC.below oC lC nC.below.size
              have rrC : Row v117 C 32 (u8s dg) := hCb.congr (allH KD.out)
              have geC : w.heap.size ≤ C := Nat.le_trans bel_116.size lC
              have lCx := lC
              clear hCa hCb nC oC sC Ce lC
              have V_118 : PAt v117 F2 S r pin (M) := V_116.old bC
              have U_118 : RSAt v117 G2 T r pin (M) := U_116.old bC
              have A_118 : Row v117 A 46 (sac a) := A_116.old bC
              have H_118 : Row v117 H 32 (u8s (digS a.s)) := H_116.old bC
              have B_118 : Row v117 B 32 (u8s dg) := B_116.old bC
              have bel_118 : Chg (fun _ => False) w v117 := bel_116.old bC
              clear V_116 U_116 A_116 H_116 B_116 bel_116 bC
              refine fgo ?_
              go_wp2_with (first
                | ((with_reducible refine at_slot 81 ?_); (refine arm_want (.agg (u8s dg).toArray) 81 rfl (by kernel_rfl) (run_op_load _ _ rfl B 0 rfl (u8s dg) ((Has.refl _).range B_118) (szH KD.out)) ?_); try simp only [Act.put, List.setIfInBounds_toArray, List.set_cons_zero, List.set_cons_succ])
                | ((with_reducible refine at_slot 82 ?_); (refine arm_want (.agg (u8s dg).toArray) 82 rfl (by kernel_rfl) (run_op_load _ _ rfl C 0 rfl (u8s dg) ((Has.refl _).range rrC) (szH KD.out)) ?_); try simp only [Act.put, List.setIfInBounds_toArray, List.set_cons_zero, List.set_cons_succ])
                | ((with_reducible refine at_slot 83 ?_); (refine arm_want (.bool false) 83 rfl (by kernel_rfl) (run_op_neqW _ _ _ rfl (dg) (dg) KD.out KD.out rfl rfl false (by rw [decide_eq_true rfl]; rfl) _) ?_); try simp only [Act.put, List.setIfInBounds_toArray, List.set_cons_zero, List.set_cons_succ])
                | ((with_reducible refine at_slot 87 ?_); (refine arm_want (.bool false) 87 rfl (by kernel_rfl) (run_op_neqBB' _ _ _ rfl vg vg rfl rfl false (by cases vg <;> rfl) _) ?_); try simp only [Act.put, List.setIfInBounds_toArray, List.set_cons_zero, List.set_cons_succ]))
              go_meet
              exact ⟨⟨F2, G2, M, _, V_118, U_118, fr, gr, hFG, nH, gH⟩, H_118, (bel_118.below (fun k hk => hk.elim) (Nat.le_refl _))⟩
            · skip
              have H0 := Lib.hid h0
              clear h0
              by_cases h1 : d = 1
              · skip
                have H1 := Lib.hid h1
                clear h1
                obtain ⟨v, hv⟩ : ∃ v, hasB (digS a.s) L = v := ⟨_, rfl⟩
                have HV := Lib.hid hv
                clear hv
                have HL1 : Hid (L.length ≤ 1000) := Lib.hid (by have := V_108.ok.len; have := HR100.out; omega)
                go_wp2_with (first
                  | ((with_reducible refine at_slot 65 ?_); (refine arm_want (.bool false) 65 rfl (by kernel_rfl) (cmp_eql _ _ .i64 (by kernel_rfl) _ _ rfl .i64 (d) (0) rfl rfl false (decide_eq_false H0.out) _) ?_); try simp only [Act.put, List.setIfInBounds_toArray, List.set_cons_zero, List.set_cons_succ])
                  | ((with_reducible refine at_slot 90 ?_); (refine arm_want (.bool true) 90 rfl (by kernel_rfl) (cmp_eql _ _ .i64 (by kernel_rfl) _ _ rfl .i64 (d) (1) rfl rfl true (decide_eq_true H1.out) _) ?_); try simp only [Act.put, List.setIfInBounds_toArray, List.set_cons_zero, List.set_cons_succ]))
                refine wp_region_held (S := fun w' => Row w' H 32 (u8s (digS a.s)) ∧ True) (by kernel_rfl) ?_
                change wpAnyH _ _ _ _ _ _ _ _ v107.drew
                have hd109 : Below v107.heap.size v107 v107.drew := (Below.refl _ _).drew
                have V_110 : PAt v107.drew F S r pin (L) := V_108.old hd109
                have U_110 : RSAt v107.drew G T r pin (L) := U_108.old hd109
                have A_110 : Row v107.drew A 46 (sac a) := A_108.old hd109
                have H_110 : Row v107.drew H 32 (u8s (digS a.s)) := rrH.old hd109
                have bel_110 : Chg (fun _ => False) w v107.drew := bel_108.old hd109
                clear V_108 U_108 A_108 rrH bel_108 hd109
                generalize v107.drew = yz109 at V_110 U_110 A_110 H_110 bel_110 ⊢
                refine h_take 0 (.pointer (some ⟨S, 0, none⟩)) rfl 91 rfl (by kernel_rfl) (by kernel_rfl) (by kernel_rfl) (by kernel_rfl) (fun _ _ _ h => h) (fun w' _ => by kernel_rfl) ⟨H_110, trivial⟩ ?_
                simp only [Act.put, List.setIfInBounds_toArray, List.set_cons_zero, List.set_cons_succ]
                refine h_take 1 (.agg (u8s (digS a.s)).toArray) rfl 92 rfl (by kernel_rfl) (by kernel_rfl) (by kernel_rfl) (by kernel_rfl) (fun _ _ _ h => h) (fun w' hw => run_op_load _ _ rfl H (0) rfl (u8s (digS a.s)) (((Has.refl _)).range hw.1) ((szH KH.out))) ⟨H_110, trivial⟩ ?_
                simp only [Act.put, List.setIfInBounds_toArray, List.set_cons_zero, List.set_cons_succ]
                refine h_take 3 (.pointer (some ⟨T, 0, none⟩)) rfl 94 rfl (by kernel_rfl) (by kernel_rfl) (by kernel_rfl) (by kernel_rfl) (fun _ _ _ h => h) (fun w' _ => by kernel_rfl) ⟨H_110, trivial⟩ ?_
                simp only [Act.put, List.setIfInBounds_toArray, List.set_cons_zero, List.set_cons_succ]
                refine h_take 4 (.agg (u8s (digS a.s)).toArray) rfl 95 rfl (by kernel_rfl) (by kernel_rfl) (by kernel_rfl) (by kernel_rfl) (fun _ _ _ h => h) (fun w' hw => run_op_load _ _ rfl H (0) rfl (u8s (digS a.s)) (((Has.refl _)).range hw.1) ((szH KH.out))) ⟨H_110, trivial⟩ ?_
                simp only [Act.put, List.setIfInBounds_toArray, List.set_cons_zero, List.set_cons_succ]
                refine h_one (i := 2) (by kernel_rfl) (o_call rfl 93 rfl (by kernel_rfl) (run_op_call 11 _ _ rfl #[.pointer (some ⟨S, 0, none⟩), .agg (u8s (digS a.s)).toArray] (by simp only [List.map_toArray, List.map_cons, List.map_nil]; rfl) Tryz.func11 (by kernel_rfl) (by kernel_rfl) _) (pin_to (v := v) (q := (if v = true then some (digS a.s) else pin)) KH.out V_110 HV.out rfl) ?_)
                rintro e y111 ⟨rfl, ⟨F2, hV2, hG2⟩, hc⟩
                have mA := notF_grew nA hG2 A_110.lt
                have mH := notF_grew nH hG2 H_110.lt
                have fr2 := hG2.from fr bel_110.size
                have hFG2 := hFG.grew hG2 U_110.lies
                have V_112 : PAt y111 F2 S r (if v = true then some (digS a.s) else pin) (L) := hV2
                have U_112 : RSAt y111 G T r pin (L) := U_110.chg hc hFG
                have A_112 : Row y111 A 46 (sac a) := A_110.chg hc nA
                have H_112 : Row y111 H 32 (u8s (digS a.s)) := H_110.chg hc nH
                have bel_112 : Chg (fun _ => False) w y111 := bel_110.fresh hc fr
                clear V_110 U_110 A_110 H_110 bel_110 hc
                clear nA
                have nA := mA
                clear mA
                clear nH
                have nH := mH
                clear mH
                clear hG2 hFG fr
                have hFG := hFG2; have fr := fr2
                clear hFG2 fr2
                refine ⟨_, rfl, ⟨H_112, trivial⟩, ?_⟩
                simp only [Act.put, List.setIfInBounds_toArray, List.set_cons_zero, List.set_cons_succ]
                refine h_one (i := 5) (by kernel_rfl) (o_call rfl 96 rfl (by kernel_rfl) (run_op_call 12 _ _ rfl #[.pointer (some ⟨T, 0, none⟩), .agg (u8s (digS a.s)).toArray] (by simp only [List.map_toArray, List.map_cons, List.map_nil]; rfl) Tryz.func12 (by kernel_rfl) (by kernel_rfl) _) (pinOf_to (v := v) (q := (if v = true then some (digS a.s) else pin)) (digS a.s) _ U_112 KH.out HL1.out HV.out rfl) ?_)
                rintro e y113 ⟨rfl, ⟨G2, hV2, hG2⟩, hc⟩
                have mA := notF_grew gA hG2 A_112.lt
                have mH := notF_grew gH hG2 H_112.lt
                have gr2 := hG2.from gr bel_112.size
                have hFG2 := (hFG.symm.grew hG2 V_112.lies).symm
                have V_114 : PAt y113 F2 S r (if v = true then some (digS a.s) else pin) (L) := V_112.chg hc hFG.symm
                have U_114 : RSAt y113 G2 T r (if v = true then some (digS a.s) else pin) (L) := hV2
                have A_114 : Row y113 A 46 (sac a) := A_112.chg hc gA
                have H_114 : Row y113 H 32 (u8s (digS a.s)) := H_112.chg hc gH
                have bel_114 : Chg (fun _ => False) w y113 := bel_112.fresh hc gr
                clear V_112 U_112 A_112 H_112 bel_112 hc
                clear gA
                have gA := mA
                clear mA
                clear gH
                have gH := mH
                clear mH
                clear hG2 hFG gr
                have hFG := hFG2; have gr := gr2
                clear hFG2 gr2
                refine ⟨_, rfl, ⟨H_114, trivial⟩, ?_⟩
                simp only [Act.put, List.setIfInBounds_toArray, List.set_cons_zero, List.set_cons_succ]
                refine h_take 6 (.bool false) rfl 97 rfl (by kernel_rfl) (by kernel_rfl) (by kernel_rfl) (by kernel_rfl) (fun _ _ _ h => h) (fun w' _ => run_op_neqBB' _ _ _ rfl v v rfl rfl false (by cases v <;> rfl) w') ⟨H_114, trivial⟩ ?_
                simp only [Act.put, List.setIfInBounds_toArray, List.set_cons_zero, List.set_cons_succ]
                refine wpAnyH_done (by kernel_rfl) ?_ _
                go_wp2_with fail
                go_meet
                exact ⟨⟨F2, G2, L, _, V_114, U_114, fr, gr, hFG, nH, gH⟩, H_114, (bel_114.below (fun k hk => hk.elim) (Nat.le_refl _))⟩
              · skip
                have H1 := Lib.hid h1
                clear h1
                by_cases h3 : d = 3
                · skip
                  have H3 := Lib.hid h3
                  clear h3
                  obtain ⟨q, hq⟩ : ∃ q, q = putL r (some (digS a.s)) a.s L := ⟨_, rfl⟩
                  obtain ⟨M, gg⟩ := q
                  have HQ := Lib.hid hq
                  clear hq
                  obtain ⟨dg, hdg⟩ : ∃ dg, (gg.map digS).getD zh = dg := ⟨_, rfl⟩
                  obtain ⟨vg, hvg⟩ : ∃ vg, gg.isSome = vg := ⟨_, rfl⟩
                  have KD : Hid (H32 dg) := Lib.hid (by
                    rw [← hdg]
                    cases gg with
                    | none => exact zh_ok
                    | some y => exact digS_ok y)
                  have HD := Lib.hid hdg; have HVG := Lib.hid hvg
                  clear hdg hvg
                  have HLR := Lib.hid V_108.ok.len; have H2R := Lib.hid V_108.ok.two
                  go_wp2_with (first
                    | ((with_reducible refine at_slot 65 ?_); (refine arm_want (.bool false) 65 rfl (by kernel_rfl) (cmp_eql _ _ .i64 (by kernel_rfl) _ _ rfl .i64 (d) (0) rfl rfl false (decide_eq_false H0.out) _) ?_); try simp only [Act.put, List.setIfInBounds_toArray, List.set_cons_zero, List.set_cons_succ])
                    | ((with_reducible refine at_slot 90 ?_); (refine arm_want (.bool false) 90 rfl (by kernel_rfl) (cmp_eql _ _ .i64 (by kernel_rfl) _ _ rfl .i64 (d) (1) rfl rfl false (decide_eq_false H1.out) _) ?_); try simp only [Act.put, List.setIfInBounds_toArray, List.set_cons_zero, List.set_cons_succ])
                    | ((with_reducible refine at_slot 99 ?_); (refine arm_want (.bool true) 99 rfl (by kernel_rfl) (cmp_eql _ _ .i64 (by kernel_rfl) _ _ rfl .i64 (d) (3) rfl rfl true (decide_eq_true H3.out) _) ?_); try simp only [Act.put, List.setIfInBounds_toArray, List.set_cons_zero, List.set_cons_succ])
                    | ((with_reducible refine at_slot 103 ?_); (refine arm_load (o := ⟨some 103, _, _, _, _, _⟩) rfl _ _ rfl A 1 rfl (scs a.s) ((sac_s a).range A_108) (sz_sta KA.out.s) ?_); try simp only [Act.put, List.setIfInBounds_toArray, List.set_cons_zero, List.set_cons_succ]))
                  refine (keep_to (d := dg) (v := vg) a.s V_108 KA.out.s HR100.out (HKW.out _ (bel_108.below (fun k hk => hk.elim) (Nat.le_refl _))) HQ.out.symm HD.out HVG.out).mono ?_
                  rintro e yP109 ⟨rfl, ⟨F2, hV2, hG2⟩, hc⟩
                  have mA := notF_grew nA hG2 A_108.lt
                  have mH := notF_grew nH hG2 rrH.lt
                  have fr2 := hG2.from fr bel_108.size
                  have hFG2 := hFG.grew hG2 U_108.lies
                  have V_110 : PAt yP109 F2 S r (some (digS a.s)) (M) := hV2
                  have U_110 : RSAt yP109 G T r pin (L) := U_108.chg hc hFG
                  have A_110 : Row yP109 A 46 (sac a) := A_108.chg hc nA
                  have H_110 : Row yP109 H 32 (u8s (digS a.s)) := rrH.chg hc nH
                  have bel_110 : Chg (fun _ => False) w yP109 := bel_108.fresh hc fr
                  clear V_108 U_108 A_108 rrH bel_108 hc
                  clear nA
                  have nA := mA
                  clear mA
                  clear nH
                  have nH := mH
                  clear mH
                  clear hG2 hFG fr
                  have hFG := hFG2; have fr := fr2
                  clear hFG2 fr2
                  have lG := Lib.hid U_110.lies
                  go_wp2_with (first
                    | ((with_reducible refine at_slot 16 ?_); (refine arm_alloc (o := ⟨some 16, _, _, _, _, _⟩) rfl _ rfl (u8s zh) zH ?_); intro B v111a Be hBa nB; try simp only [Act.put, List.setIfInBounds_toArray, List.set_cons_zero, List.set_cons_succ])
                    | ((with_reducible refine arm_store (o := ⟨none, _, _, _, _, _⟩) rfl _ _ _ rfl B 0 rfl (u8s dg) rfl _ _ hBa (fitH KD.out) (u8s_one _) (szH KD.out) ?_); intro v111 hBb oB sB; try simp only [Act.put, List.setIfInBounds_toArray, List.set_cons_zero, List.set_cons_succ]; refine fpause ?_; try simp only [Act.put, List.setIfInBounds_toArray, List.set_cons_zero, List.set_cons_succ]))
                  have lB : yP109.heap.size ≤ B := by have := Be.out; omega
                  have bB : Below yP109.heap.size yP109 v111 := below_only nB.below oB lB nB.below.size
                  have rrB : Row v111 B 32 (u8s dg) := hBb.congr (allH KD.out)
                  have geB : w.heap.size ≤ B := Nat.le_trans bel_110.size lB
                  have lBx := lB
                  clear hBa hBb nB oB sB Be lB
                  have V_112 : PAt v111 F2 S r (some (digS a.s)) (M) := V_110.old bB
                  have U_112 : RSAt v111 G T r pin (L) := U_110.old bB
                  have A_112 : Row v111 A 46 (sac a) := A_110.old bB
                  have H_112 : Row v111 H 32 (u8s (digS a.s)) := H_110.old bB
                  have bel_112 : Chg (fun _ => False) w v111 := bel_110.old bB
                  clear V_110 U_110 A_110 H_110 bel_110 bB
                  refine fgo ?_
                  have gB : ¬ G B := fun q => by have := lG.out B q; omega
                  clear lG
                  go_wp2_with (first
                    | ((with_reducible refine at_slot 110 ?_); (refine arm_load (o := ⟨some 110, _, _, _, _, _⟩) rfl _ _ rfl A 1 rfl (scs a.s) ((sac_s a).range A_112) (sz_sta KA.out.s) ?_); try simp only [Act.put, List.setIfInBounds_toArray, List.set_cons_zero, List.set_cons_succ]))
                  refine (CO.out a.s KA.out.s _).mono ?_
                  rintro e y113 ⟨rfl, hB⟩
                  have V_114 : PAt y113 F2 S r (some (digS a.s)) (M) := V_112.old hB
                  have U_114 : RSAt y113 G T r pin (L) := U_112.old hB
                  have A_114 : Row y113 A 46 (sac a) := A_112.old hB
                  have H_114 : Row y113 H 32 (u8s (digS a.s)) := H_112.old hB
                  have B_114 : Row y113 B 32 (u8s dg) := rrB.old hB
                  have bel_114 : Chg (fun _ => False) w y113 := bel_112.old hB
                  clear V_112 U_112 A_112 H_112 rrB bel_112 hB
                  go_wp2_with fail
                  refine (rkeep_to (d := dg) (v := vg) a.s U_114 HLR.out ⟨H2R.out, HR100.out⟩ KA.out.s (HKZ.out _ (bel_114.below (fun k hk => hk.elim) (Nat.le_refl _))) HQ.out.symm HD.out HVG.out).mono ?_
                  rintro e yP115 ⟨rfl, ⟨G2, hV2, hG2⟩, hc⟩
                  have mA := notF_grew gA hG2 A_114.lt
                  have mH := notF_grew gH hG2 H_114.lt
                  have mB := notF_grew gB hG2 B_114.lt
                  have gr2 := hG2.from gr bel_114.size
                  have hFG2 := (hFG.symm.grew hG2 V_114.lies).symm
                  have V_116 : PAt yP115 F2 S r (some (digS a.s)) (M) := V_114.chg hc hFG.symm
                  have U_116 : RSAt yP115 G2 T r (some (digS a.s)) (M) := hV2
                  have A_116 : Row yP115 A 46 (sac a) := A_114.chg hc gA
                  have H_116 : Row yP115 H 32 (u8s (digS a.s)) := H_114.chg hc gH
                  have B_116 : Row yP115 B 32 (u8s dg) := B_114.chg hc gB
                  have bel_116 : Chg (fun _ => False) w yP115 := bel_114.fresh hc gr
                  clear V_114 U_114 A_114 H_114 B_114 bel_114 hc
                  clear gA
                  have gA := mA
                  clear mA
                  clear gH
                  have gH := mH
                  clear mH
                  clear gB
                  have gB := mB
                  clear mB
                  clear hG2 hFG gr
                  have hFG := hFG2; have gr := gr2
                  clear hFG2 gr2
                  go_wp2_with (first
                    | ((with_reducible refine at_slot 18 ?_); (refine arm_alloc (o := ⟨some 18, _, _, _, _, _⟩) rfl _ rfl (u8s zh) zH ?_); intro C v117a Ce hCa nC; try simp only [Act.put, List.setIfInBounds_toArray, List.set_cons_zero, List.set_cons_succ])
                    | ((with_reducible refine arm_store (o := ⟨none, _, _, _, _, _⟩) rfl _ _ _ rfl C 0 rfl (u8s dg) rfl _ _ hCa (fitH KD.out) (u8s_one _) (szH KD.out) ?_); intro v117 hCb oC sC; try simp only [Act.put, List.setIfInBounds_toArray, List.set_cons_zero, List.set_cons_succ]; refine fpause ?_; try simp only [Act.put, List.setIfInBounds_toArray, List.set_cons_zero, List.set_cons_succ]))
                  have lC : yP115.heap.size ≤ C := by have := Ce.out; omega
                  have bC : Below yP115.heap.size yP115 v117 := below_only nC.below oC lC nC.below.size
                  have rrC : Row v117 C 32 (u8s dg) := hCb.congr (allH KD.out)
                  have geC : w.heap.size ≤ C := Nat.le_trans bel_116.size lC
                  have lCx := lC
                  clear hCa hCb nC oC sC Ce lC
                  have V_118 : PAt v117 F2 S r (some (digS a.s)) (M) := V_116.old bC
                  have U_118 : RSAt v117 G2 T r (some (digS a.s)) (M) := U_116.old bC
                  have A_118 : Row v117 A 46 (sac a) := A_116.old bC
                  have H_118 : Row v117 H 32 (u8s (digS a.s)) := H_116.old bC
                  have B_118 : Row v117 B 32 (u8s dg) := B_116.old bC
                  have bel_118 : Chg (fun _ => False) w v117 := bel_116.old bC
                  clear V_116 U_116 A_116 H_116 B_116 bel_116 bC
                  refine fgo ?_
                  go_wp2_with (first
                    | ((with_reducible refine at_slot 115 ?_); (refine arm_want (.agg (u8s dg).toArray) 115 rfl (by kernel_rfl) (run_op_load _ _ rfl B 0 rfl (u8s dg) ((Has.refl _).range B_118) (szH KD.out)) ?_); try simp only [Act.put, List.setIfInBounds_toArray, List.set_cons_zero, List.set_cons_succ])
                    | ((with_reducible refine at_slot 116 ?_); (refine arm_want (.agg (u8s dg).toArray) 116 rfl (by kernel_rfl) (run_op_load _ _ rfl C 0 rfl (u8s dg) ((Has.refl _).range rrC) (szH KD.out)) ?_); try simp only [Act.put, List.setIfInBounds_toArray, List.set_cons_zero, List.set_cons_succ])
                    | ((with_reducible refine at_slot 117 ?_); (refine arm_want (.bool false) 117 rfl (by kernel_rfl) (run_op_neqW _ _ _ rfl (dg) (dg) KD.out KD.out rfl rfl false (by rw [decide_eq_true rfl]; rfl) _) ?_); try simp only [Act.put, List.setIfInBounds_toArray, List.set_cons_zero, List.set_cons_succ])
                    | ((with_reducible refine at_slot 121 ?_); (refine arm_want (.bool false) 121 rfl (by kernel_rfl) (run_op_neqBB' _ _ _ rfl vg vg rfl rfl false (by cases vg <;> rfl) _) ?_); try simp only [Act.put, List.setIfInBounds_toArray, List.set_cons_zero, List.set_cons_succ]))
                  go_meet
                  exact ⟨⟨F2, G2, M, _, V_118, U_118, fr, gr, hFG, nH, gH⟩, H_118, (bel_118.below (fun k hk => hk.elim) (Nat.le_refl _))⟩
                · skip
                  have H3 := Lib.hid h3
                  clear h3
                  go_wp2_with (first
                    | ((with_reducible refine at_slot 65 ?_); (refine arm_want (.bool false) 65 rfl (by kernel_rfl) (cmp_eql _ _ .i64 (by kernel_rfl) _ _ rfl .i64 (d) (0) rfl rfl false (decide_eq_false H0.out) _) ?_); try simp only [Act.put, List.setIfInBounds_toArray, List.set_cons_zero, List.set_cons_succ])
                    | ((with_reducible refine at_slot 90 ?_); (refine arm_want (.bool false) 90 rfl (by kernel_rfl) (cmp_eql _ _ .i64 (by kernel_rfl) _ _ rfl .i64 (d) (1) rfl rfl false (decide_eq_false H1.out) _) ?_); try simp only [Act.put, List.setIfInBounds_toArray, List.set_cons_zero, List.set_cons_succ])
                    | ((with_reducible refine at_slot 99 ?_); (refine arm_want (.bool false) 99 rfl (by kernel_rfl) (cmp_eql _ _ .i64 (by kernel_rfl) _ _ rfl .i64 (d) (3) rfl rfl false (decide_eq_false H3.out) _) ?_); try simp only [Act.put, List.setIfInBounds_toArray, List.set_cons_zero, List.set_cons_succ]))
                  go_meet
                  exact ⟨⟨F, G, L, pin, V_108, U_108, fr, gr, hFG, nH, gH⟩, rrH, (bel_108.below (fun k hk => hk.elim) (Nat.le_refl _))⟩
          case rest =>
            clear V_108 U_108 A_108 rrH bel_108 nA nH gA gH fr gr hFG
            obtain ⟨⟨F, G, L, pin, hV, hU, fr, gr, hFG, nH, gH⟩, hRH, hbl⟩ := hcut
            have bel0 : Chg (fun _ => False) w wc := Chg.of_below _ hbl
            clear hbl
            generalize wc = W5 at hV hU hRH bel0 ⊢
            have HL1 : Hid (L.length ≤ 1000) := Lib.hid (by have := hV.ok.len; have := HR100.out; omega)
            have KPH := Lib.hid (ppin_ok hV)
            have hfp := find_parts (h := digS a.s) hV.ok
            obtain ⟨v, hv⟩ : ∃ v, hasB (digS a.s) L = v := ⟨_, rfl⟩
            obtain ⟨z, hz⟩ : ∃ z, posI (L.map keyN) (digS a.s) = z := ⟨_, rfl⟩
            obtain ⟨xg, hxg⟩ : ∃ xg, (getS L (digS a.s)).getD zs = xg := ⟨_, rfl⟩
            have KXG : Hid (xg.Ok) := Lib.hid (hxg ▸ get_ok hV.states)
            rw [hv, hz, hxg] at hfp
            have HFP := Lib.hid hfp; have HV := Lib.hid hv; have HZ := Lib.hid hz; have HXG := Lib.hid hxg
            clear hfp hv hz hxg
            go_wp2_with (first
              | ((with_reducible refine at_slot 125 ?_); (refine arm_load (o := ⟨some 125, _, _, _, _, _⟩) rfl _ _ rfl H 0 rfl (u8s (digS a.s)) ((Has.refl _).range hRH) (szH KH.out) ?_); try simp only [Act.put, List.setIfInBounds_toArray, List.set_cons_zero, List.set_cons_succ]))
            refine (get_to (x := xg) (v := v) KH.out hV HXG.out HV.out).mono ?_
            rintro e y301 ⟨rfl, hB⟩
            have V_302 : PAt y301 F S r pin (L) := hV.old hB
            have U_302 : RSAt y301 G T r pin (L) := hU.old hB
            have H_302 : Row y301 H 32 (u8s (digS a.s)) := hRH.old hB
            have bel_302 : Chg (fun _ => False) w y301 := bel0.old hB
            clear hV hU hRH bel0 hB
            go_wp2_with (first
              | ((with_reducible refine at_slot 20 ?_); (refine arm_alloc (o := ⟨some 20, _, _, _, _, _⟩) rfl _ rfl (scs zs) z_sta ?_); intro X v303a Xe hXa nX; try simp only [Act.put, List.setIfInBounds_toArray, List.set_cons_zero, List.set_cons_succ])
              | ((with_reducible refine arm_store (o := ⟨none, _, _, _, _, _⟩) rfl _ _ _ rfl X 0 rfl (scs xg) rfl _ _ hXa (fitS KXG.out) (scs_one _) (sz_sta KXG.out) ?_); intro v303 hXb oX sX; try simp only [Act.put, List.setIfInBounds_toArray, List.set_cons_zero, List.set_cons_succ]; refine fpause ?_; try simp only [Act.put, List.setIfInBounds_toArray, List.set_cons_zero, List.set_cons_succ]))
            have lX : y301.heap.size ≤ X := by have := Xe.out; omega
            have bX : Below y301.heap.size y301 v303 := below_only nX.below oX lX nX.below.size
            have rrX : Row v303 X 44 (scs xg) := hXb.congr (allS KXG.out)
            have geX : w.heap.size ≤ X := Nat.le_trans bel_302.size lX
            have lXx := lX
            clear hXa hXb nX oX sX Xe lX
            have V_304 : PAt v303 F S r pin (L) := V_302.old bX
            have U_304 : RSAt v303 G T r pin (L) := U_302.old bX
            have H_304 : Row v303 H 32 (u8s (digS a.s)) := H_302.old bX
            have bel_304 : Chg (fun _ => False) w v303 := bel_302.old bX
            clear V_302 U_302 H_302 bel_302 bX
            refine fgo ?_
            go_wp2_with (first
              | ((with_reducible refine at_slot 130 ?_); (refine arm_load (o := ⟨some 130, _, _, _, _, _⟩) rfl _ _ rfl H 0 rfl (u8s (digS a.s)) ((Has.refl _).range H_304) (szH KH.out) ?_); try simp only [Act.put, List.setIfInBounds_toArray, List.set_cons_zero, List.set_cons_succ]))
            refine (rfind_to (z := z) U_304 KH.out HL1.out HZ.out).mono ?_
            rintro e y305 ⟨rfl, hB⟩
            have V_306 : PAt y305 F S r pin (L) := V_304.old hB
            have U_306 : RSAt y305 G T r pin (L) := U_304.old hB
            have H_306 : Row y305 H 32 (u8s (digS a.s)) := H_304.old hB
            have X_306 : Row y305 X 44 (scs xg) := rrX.old hB
            have bel_306 : Chg (fun _ => False) w y305 := bel_304.old hB
            clear V_304 U_304 H_304 rrX bel_304 hB
            go_wp2_with fail
            refine (pinned_to V_306 rfl rfl).mono ?_
            rintro e y307 ⟨rfl, hB⟩
            have V_308 : PAt y307 F S r pin (L) := V_306.old hB
            have U_308 : RSAt y307 G T r pin (L) := U_306.old hB
            have H_308 : Row y307 H 32 (u8s (digS a.s)) := H_306.old hB
            have X_308 : Row y307 X 44 (scs xg) := X_306.old hB
            have bel_308 : Chg (fun _ => False) w y307 := bel_306.old hB
            clear V_306 U_306 H_306 X_306 bel_306 hB
            go_wp2_with (first
              | ((with_reducible refine at_slot 23 ?_); (refine arm_alloc (o := ⟨some 23, _, _, _, _, _⟩) rfl _ rfl (u8s zh) zH ?_); intro Q v309a Qe hQa nQ; try simp only [Act.put, List.setIfInBounds_toArray, List.set_cons_zero, List.set_cons_succ])
              | ((with_reducible refine arm_store (o := ⟨none, _, _, _, _, _⟩) rfl _ _ _ rfl Q 0 rfl (u8s (pin.getD zh)) rfl _ _ hQa (fitH KPH.out) (u8s_one _) (szH KPH.out) ?_); intro v309 hQb oQ sQ; try simp only [Act.put, List.setIfInBounds_toArray, List.set_cons_zero, List.set_cons_succ]; refine fpause ?_; try simp only [Act.put, List.setIfInBounds_toArray, List.set_cons_zero, List.set_cons_succ]))
            have lQ : y307.heap.size ≤ Q := by have := Qe.out; omega
            have bQ : Below y307.heap.size y307 v309 := below_only nQ.below oQ lQ nQ.below.size
            have rrQ : Row v309 Q 32 (u8s (pin.getD zh)) := hQb.congr (allH KPH.out)
            have geQ : w.heap.size ≤ Q := Nat.le_trans bel_308.size lQ
            have lQx := lQ
            clear hQa hQb nQ oQ sQ Qe lQ
            have V_310 : PAt v309 F S r pin (L) := V_308.old bQ
            have U_310 : RSAt v309 G T r pin (L) := U_308.old bQ
            have H_310 : Row v309 H 32 (u8s (digS a.s)) := H_308.old bQ
            have X_310 : Row v309 X 44 (scs xg) := X_308.old bQ
            have bel_310 : Chg (fun _ => False) w v309 := bel_308.old bQ
            clear V_308 U_308 H_308 X_308 bel_308 bQ
            refine fgo ?_
            go_wp2_with fail
            obtain ⟨pl, cl, pk, ck, hR, hOL, hOK, _, _, _⟩ := U_310.ex
            clear HV HZ HXG
            rcases HFP.out with ⟨rfl, n, rfl, hn, hxn⟩ | ⟨rfl, rfl, rfl⟩
            · as_aux_lemma =>
              obtain ⟨g1, o1, e1, _, hD⟩ := (hOL.at fR).at_ n xg hxn
              subst e1
              have HLN := Lib.hid hn
              clear hxn hn
              have dZ : decide (((n : Int) : Int) ≥ 0) = true := decide_eq_true (by omega)
              refine wp_region_held (S := fun w' => Row w' X 44 (scs xg) ∧ Row w' Q 32 (u8s (pin.getD zh)) ∧ Row w' T 68 (ncs (some ⟨g1, o1, none⟩) L.length cl pk L.length ck r pin) ∧ w'.rangeAt g1 (o1 + n * 363) (scs xg) ∧ True) (by kernel_rfl) ?_
              change wpAnyH _ _ _ _ _ _ _ _ v309.drew
              have hd311 : Below v309.heap.size v309 v309.drew := (Below.refl _ _).drew
              have V_312 : PAt v309.drew F S r pin (L) := V_310.old hd311
              have U_312 : RSAt v309.drew G T r pin (L) := U_310.old hd311
              have H_312 : Row v309.drew H 32 (u8s (digS a.s)) := H_310.old hd311
              have X_312 : Row v309.drew X 44 (scs xg) := X_310.old hd311
              have Q_312 : Row v309.drew Q 32 (u8s (pin.getD zh)) := rrQ.old hd311
              have T_312 : Row v309.drew T 68 (ncs (some ⟨g1, o1, none⟩) L.length cl pk L.length ck r pin) := hR.old hd311
              have OK_312 : Sl.Own kRK v309.drew 0 pk ck (L.map keyN) := hOK.below hd311
              have D_312 : v309.drew.rangeAt g1 (o1 + n * 363) (scs xg) := range_s KXG.out hD hd311
              have bel_312 : Chg (fun _ => False) w v309.drew := bel_310.old hd311
              clear V_310 U_310 H_310 X_310 rrQ hR hOK hD bel_310 hd311
              generalize v309.drew = yz311 at V_312 U_312 H_312 X_312 Q_312 T_312 OK_312 D_312 bel_312 ⊢
              refine h_take 0 (.bool true) rfl 137 rfl (by kernel_rfl) (by kernel_rfl) (by kernel_rfl) (by kernel_rfl) (fun _ _ _ h => h) (fun w' _ => by kernel_rfl) ⟨X_312, Q_312, T_312, D_312, trivial⟩ ?_
              simp only [Act.put, List.setIfInBounds_toArray, List.set_cons_zero, List.set_cons_succ]
              refine h_take 1 (.int .i64 ((n : Int))) rfl 138 rfl (by kernel_rfl) (by kernel_rfl) (by kernel_rfl) (by kernel_rfl) (fun _ _ _ h => h) (fun w' _ => by kernel_rfl) ⟨X_312, Q_312, T_312, D_312, trivial⟩ ?_
              simp only [Act.put, List.setIfInBounds_toArray, List.set_cons_zero, List.set_cons_succ]
              refine h_take 2 (.bool true) rfl 139 rfl (by kernel_rfl) (by kernel_rfl) (by kernel_rfl) (by kernel_rfl) (fun _ _ _ h => h) (fun w' _ => cmp_geq _ _ _ _ rfl .i64 ((n : Int)) 0 rfl rfl true dZ w') ⟨X_312, Q_312, T_312, D_312, trivial⟩ ?_
              simp only [Act.put, List.setIfInBounds_toArray, List.set_cons_zero, List.set_cons_succ]
              refine h_take 3 (.bool false) rfl 140 rfl (by kernel_rfl) (by kernel_rfl) (by kernel_rfl) (by kernel_rfl) (fun _ _ _ h => h) (fun w' _ => run_op_neqBB' _ _ _ rfl true true rfl rfl false rfl w') ⟨X_312, Q_312, T_312, D_312, trivial⟩ ?_
              simp only [Act.put, List.setIfInBounds_toArray, List.set_cons_zero, List.set_cons_succ]
              refine h_take 4 (.bool false) rfl 141 rfl (by kernel_rfl) (by kernel_rfl) (by kernel_rfl) (by kernel_rfl) (fun _ _ _ h => h) (fun w' _ => by kernel_rfl) ⟨X_312, Q_312, T_312, D_312, trivial⟩ ?_
              simp only [Act.put, List.setIfInBounds_toArray, List.set_cons_zero, List.set_cons_succ]
              refine h_take 5 (.bool true) rfl 142 rfl (by kernel_rfl) (by kernel_rfl) (by kernel_rfl) (by kernel_rfl) (fun _ _ _ h => h) (fun w' _ => by kernel_rfl) ⟨X_312, Q_312, T_312, D_312, trivial⟩ ?_
              simp only [Act.put, List.setIfInBounds_toArray, List.set_cons_zero, List.set_cons_succ]
              refine h_take 6 (.bool true) rfl 143 rfl (by kernel_rfl) (by kernel_rfl) (by kernel_rfl) (by kernel_rfl) (fun _ _ _ h => h) (fun w' _ => by kernel_rfl) ⟨X_312, Q_312, T_312, D_312, trivial⟩ ?_
              simp only [Act.put, List.setIfInBounds_toArray, List.set_cons_zero, List.set_cons_succ]
              refine h_take 7 (.agg (scs xg).toArray) rfl 144 rfl (by kernel_rfl) (by kernel_rfl) (by kernel_rfl) (by kernel_rfl) (fun _ _ _ h => h) (fun w' hw => run_op_load _ _ rfl X (0) rfl (scs xg) (((Has.refl _)).range hw.1) ((sz_sta KXG.out))) ⟨X_312, Q_312, T_312, D_312, trivial⟩ ?_
              simp only [Act.put, List.setIfInBounds_toArray, List.set_cons_zero, List.set_cons_succ]
              refine h_take 9 (.pointer (some ⟨T, 0, none⟩)) rfl 146 rfl (by kernel_rfl) (by kernel_rfl) (by kernel_rfl) (by kernel_rfl) (fun _ _ _ h => h) (fun w' _ => by kernel_rfl) ⟨X_312, Q_312, T_312, D_312, trivial⟩ ?_
              simp only [Act.put, List.setIfInBounds_toArray, List.set_cons_zero, List.set_cons_succ]
              refine h_take 10 (.pointer (some ⟨T, 0, none⟩)) rfl 147 rfl (by kernel_rfl) (by kernel_rfl) (by kernel_rfl) (by kernel_rfl) (fun _ _ _ h => h) (fun w' _ => by kernel_rfl) ⟨X_312, Q_312, T_312, D_312, trivial⟩ ?_
              simp only [Act.put, List.setIfInBounds_toArray, List.set_cons_zero, List.set_cons_succ]
              refine h_take 11 (.pointer (some ⟨T, 0, none⟩)) rfl 148 rfl (by kernel_rfl) (by kernel_rfl) (by kernel_rfl) (by kernel_rfl) (fun _ _ _ h => h) (fun w' _ => by kernel_rfl) ⟨X_312, Q_312, T_312, D_312, trivial⟩ ?_
              simp only [Act.put, List.setIfInBounds_toArray, List.set_cons_zero, List.set_cons_succ]
              refine h_take 12 (.slice (some ⟨g1, o1, none⟩) L.length cl) rfl 149 rfl (by kernel_rfl) (by kernel_rfl) (by kernel_rfl) (by kernel_rfl) (fun _ _ _ h => h) (fun w' hw => run_op_load1 _ _ rfl (.slice 55) fR.und rfl ⟨T, 0, none⟩ rfl (.slice (some ⟨g1, o1, none⟩) L.length cl) (hw.2.2.1.cell (i := 0) rfl)) ⟨X_312, Q_312, T_312, D_312, trivial⟩ ?_
              simp only [Act.put, List.setIfInBounds_toArray, List.set_cons_zero, List.set_cons_succ]
              refine h_take 13 (.int .i64 (n : Int)) rfl 150 rfl (by kernel_rfl) (by kernel_rfl) (by kernel_rfl) (by kernel_rfl) (fun _ _ _ h => h) (fun w' _ => by kernel_rfl) ⟨X_312, Q_312, T_312, D_312, trivial⟩ ?_
              simp only [Act.put, List.setIfInBounds_toArray, List.set_cons_zero, List.set_cons_succ]
              refine h_take 14 (.pointer (some ⟨g1, o1 + n * 363, none⟩)) rfl 151 rfl (by kernel_rfl) (by kernel_rfl) (by kernel_rfl) (by kernel_rfl) (fun _ _ _ h => h) (fun w' _ => Sl.run_op_index fR _ _ rfl g1 o1 _ _ rfl .i64 _ rfl n rfl HLN.out w') ⟨X_312, Q_312, T_312, D_312, trivial⟩ ?_
              simp only [Act.put, List.setIfInBounds_toArray, List.set_cons_zero, List.set_cons_succ]
              refine h_take 15 (.agg (scs xg).toArray) rfl 152 rfl (by kernel_rfl) (by kernel_rfl) (by kernel_rfl) (by kernel_rfl) (fun _ _ _ h => h) (fun w' hw => run_op_load _ _ rfl g1 (o1 + n * 363) rfl (scs xg) hw.2.2.2.1 (Sa.sz_rsta KXG.out)) ⟨X_312, Q_312, T_312, D_312, trivial⟩ ?_
              simp only [Act.put, List.setIfInBounds_toArray, List.set_cons_zero, List.set_cons_succ]
              refine h_one (i := 8) (by kernel_rfl) (o_call rfl 145 rfl (by kernel_rfl) (run_op_call 8 _ _ rfl #[.agg (scs xg).toArray] (by simp only [List.map_toArray, List.map_cons, List.map_nil]; rfl) Tryz.func8 (by kernel_rfl) (by kernel_rfl) _) (CO.out xg KXG.out _) ?_)
              rintro e y313 ⟨rfl, hB⟩
              have V_314 : PAt y313 F S r pin (L) := V_312.old hB
              have U_314 : RSAt y313 G T r pin (L) := U_312.old hB
              have H_314 : Row y313 H 32 (u8s (digS a.s)) := H_312.old hB
              have X_314 : Row y313 X 44 (scs xg) := X_312.old hB
              have Q_314 : Row y313 Q 32 (u8s (pin.getD zh)) := Q_312.old hB
              have T_314 : Row y313 T 68 (ncs (some ⟨g1, o1, none⟩) L.length cl pk L.length ck r pin) := T_312.old hB
              have OK_314 : Sl.Own kRK y313 0 pk ck (L.map keyN) := OK_312.below hB
              have D_314 : y313.rangeAt g1 (o1 + n * 363) (scs xg) := range_s KXG.out D_312 hB
              have bel_314 : Chg (fun _ => False) w y313 := bel_312.old hB
              clear V_312 U_312 H_312 X_312 Q_312 T_312 OK_312 D_312 bel_312 hB
              refine ⟨_, rfl, ⟨X_314, Q_314, T_314, D_314, trivial⟩, ?_⟩
              simp only [Act.put, List.setIfInBounds_toArray, List.set_cons_zero, List.set_cons_succ]
              refine h_take 16 (.bool false) rfl 153 rfl (by kernel_rfl) (by kernel_rfl) (by kernel_rfl) (by kernel_rfl) (fun _ _ _ h => h) (fun w' _ => Lk.run_op_neqRS KXG.out KXG.out _ _ _ rfl rfl rfl true ⟨fun _ => rfl, fun _ => rfl⟩ w') ⟨X_314, Q_314, T_314, D_314, trivial⟩ ?_
              simp only [Act.put, List.setIfInBounds_toArray, List.set_cons_zero, List.set_cons_succ]
              refine h_take 17 (.bool false) rfl 154 rfl (by kernel_rfl) (by kernel_rfl) (by kernel_rfl) (by kernel_rfl) (fun _ _ _ h => h) (fun w' _ => by kernel_rfl) ⟨X_314, Q_314, T_314, D_314, trivial⟩ ?_
              simp only [Act.put, List.setIfInBounds_toArray, List.set_cons_zero, List.set_cons_succ]
              refine h_take 18 (.bool false) rfl 155 rfl (by kernel_rfl) (by kernel_rfl) (by kernel_rfl) (by kernel_rfl) (fun _ _ _ h => h) (fun w' _ => by kernel_rfl) ⟨X_314, Q_314, T_314, D_314, trivial⟩ ?_
              simp only [Act.put, List.setIfInBounds_toArray, List.set_cons_zero, List.set_cons_succ]
              refine h_take 19 (.bool false) rfl 156 rfl (by kernel_rfl) (by kernel_rfl) (by kernel_rfl) (by kernel_rfl) (fun _ _ _ h => h) (fun w' _ => by kernel_rfl) ⟨X_314, Q_314, T_314, D_314, trivial⟩ ?_
              simp only [Act.put, List.setIfInBounds_toArray, List.set_cons_zero, List.set_cons_succ]
              refine h_take 20 (.bool true) rfl 157 rfl (by kernel_rfl) (by kernel_rfl) (by kernel_rfl) (by kernel_rfl) (fun _ _ _ h => h) (fun w' _ => by kernel_rfl) ⟨X_314, Q_314, T_314, D_314, trivial⟩ ?_
              simp only [Act.put, List.setIfInBounds_toArray, List.set_cons_zero, List.set_cons_succ]
              refine h_take 21 (.bool false) rfl 158 rfl (by kernel_rfl) (by kernel_rfl) (by kernel_rfl) (by kernel_rfl) (fun _ _ _ h => h) (fun w' _ => by kernel_rfl) ⟨X_314, Q_314, T_314, D_314, trivial⟩ ?_
              simp only [Act.put, List.setIfInBounds_toArray, List.set_cons_zero, List.set_cons_succ]
              refine h_take 22 (.bool false) rfl 159 rfl (by kernel_rfl) (by kernel_rfl) (by kernel_rfl) (by kernel_rfl) (fun _ _ _ h => h) (fun w' _ => by kernel_rfl) ⟨X_314, Q_314, T_314, D_314, trivial⟩ ?_
              simp only [Act.put, List.setIfInBounds_toArray, List.set_cons_zero, List.set_cons_succ]
              refine h_pass 23 rfl 160 rfl (by kernel_rfl) (by kernel_rfl) (by kernel_rfl) (by kernel_rfl) (fun _ _ _ h => h) ⟨X_314, Q_314, T_314, D_314, trivial⟩ ?_
              simp only [Act.put, List.setIfInBounds_toArray, List.set_cons_zero, List.set_cons_succ]
              refine h_pass 24 rfl 161 rfl (by kernel_rfl) (by kernel_rfl) (by kernel_rfl) (by kernel_rfl) (fun _ _ _ h => h) ⟨X_314, Q_314, T_314, D_314, trivial⟩ ?_
              simp only [Act.put, List.setIfInBounds_toArray, List.set_cons_zero, List.set_cons_succ]
              refine h_pass 25 rfl 162 rfl (by kernel_rfl) (by kernel_rfl) (by kernel_rfl) (by kernel_rfl) (fun _ _ _ h => h) ⟨X_314, Q_314, T_314, D_314, trivial⟩ ?_
              simp only [Act.put, List.setIfInBounds_toArray, List.set_cons_zero, List.set_cons_succ]
              refine h_take 26 (.bool false) rfl 163 rfl (by kernel_rfl) (by kernel_rfl) (by kernel_rfl) (by kernel_rfl) (fun _ _ _ h => h) (fun w' _ => by kernel_rfl) ⟨X_314, Q_314, T_314, D_314, trivial⟩ ?_
              simp only [Act.put, List.setIfInBounds_toArray, List.set_cons_zero, List.set_cons_succ]
              refine h_take 27 (.bool false) rfl 164 rfl (by kernel_rfl) (by kernel_rfl) (by kernel_rfl) (by kernel_rfl) (fun _ _ _ h => h) (fun w' _ => by kernel_rfl) ⟨X_314, Q_314, T_314, D_314, trivial⟩ ?_
              simp only [Act.put, List.setIfInBounds_toArray, List.set_cons_zero, List.set_cons_succ]
              refine h_take 28 (.bool false) rfl 165 rfl (by kernel_rfl) (by kernel_rfl) (by kernel_rfl) (by kernel_rfl) (fun _ _ _ h => h) (fun w' _ => by kernel_rfl) ⟨X_314, Q_314, T_314, D_314, trivial⟩ ?_
              simp only [Act.put, List.setIfInBounds_toArray, List.set_cons_zero, List.set_cons_succ]
              refine h_take 29 (.bool pin.isSome) rfl 166 rfl (by kernel_rfl) (by kernel_rfl) (by kernel_rfl) (by kernel_rfl) (fun _ _ _ h => h) (fun w' _ => by kernel_rfl) ⟨X_314, Q_314, T_314, D_314, trivial⟩ ?_
              simp only [Act.put, List.setIfInBounds_toArray, List.set_cons_zero, List.set_cons_succ]
              refine h_take 30 (.pointer (some ⟨T, 0, none⟩)) rfl 167 rfl (by kernel_rfl) (by kernel_rfl) (by kernel_rfl) (by kernel_rfl) (fun _ _ _ h => h) (fun w' _ => by kernel_rfl) ⟨X_314, Q_314, T_314, D_314, trivial⟩ ?_
              simp only [Act.put, List.setIfInBounds_toArray, List.set_cons_zero, List.set_cons_succ]
              refine h_take 31 (.pointer (some ⟨T, 0, none⟩)) rfl 168 rfl (by kernel_rfl) (by kernel_rfl) (by kernel_rfl) (by kernel_rfl) (fun _ _ _ h => h) (fun w' _ => by kernel_rfl) ⟨X_314, Q_314, T_314, D_314, trivial⟩ ?_
              simp only [Act.put, List.setIfInBounds_toArray, List.set_cons_zero, List.set_cons_succ]
              refine h_take 32 (.pointer (some ⟨T, 3, none⟩)) rfl 169 rfl (by kernel_rfl) (by kernel_rfl) (by kernel_rfl) (by kernel_rfl) (fun _ _ _ h => h) (fun w' _ => by kernel_rfl) ⟨X_314, Q_314, T_314, D_314, trivial⟩ ?_
              simp only [Act.put, List.setIfInBounds_toArray, List.set_cons_zero, List.set_cons_succ]
              refine h_take 33 (.bool pin.isSome) rfl 170 rfl (by kernel_rfl) (by kernel_rfl) (by kernel_rfl) (by kernel_rfl) (fun _ _ _ h => h) (fun w' hw => run_op_load1 _ _ rfl (.bool) (by kernel_rfl) rfl ⟨T, 3, none⟩ rfl (.bool pin.isSome) (hw.2.2.1.cell (i := 3) rfl)) ⟨X_314, Q_314, T_314, D_314, trivial⟩ ?_
              simp only [Act.put, List.setIfInBounds_toArray, List.set_cons_zero, List.set_cons_succ]
              refine h_take 34 (.bool false) rfl 171 rfl (by kernel_rfl) (by kernel_rfl) (by kernel_rfl) (by kernel_rfl) (fun _ _ _ h => h) (fun w' _ => run_op_neqBB' _ _ _ rfl pin.isSome pin.isSome rfl rfl false (by cases pin.isSome <;> rfl) w') ⟨X_314, Q_314, T_314, D_314, trivial⟩ ?_
              simp only [Act.put, List.setIfInBounds_toArray, List.set_cons_zero, List.set_cons_succ]
              refine h_take 35 (.bool false) rfl 172 rfl (by kernel_rfl) (by kernel_rfl) (by kernel_rfl) (by kernel_rfl) (fun _ _ _ h => h) (fun w' _ => by kernel_rfl) ⟨X_314, Q_314, T_314, D_314, trivial⟩ ?_
              simp only [Act.put, List.setIfInBounds_toArray, List.set_cons_zero, List.set_cons_succ]
              refine h_take 36 (.bool false) rfl 173 rfl (by kernel_rfl) (by kernel_rfl) (by kernel_rfl) (by kernel_rfl) (fun _ _ _ h => h) (fun w' _ => by kernel_rfl) ⟨X_314, Q_314, T_314, D_314, trivial⟩ ?_
              simp only [Act.put, List.setIfInBounds_toArray, List.set_cons_zero, List.set_cons_succ]
              refine h_take 37 (.agg (u8s (pin.getD zh)).toArray) rfl 174 rfl (by kernel_rfl) (by kernel_rfl) (by kernel_rfl) (by kernel_rfl) (fun _ _ _ h => h) (fun w' hw => run_op_load _ _ rfl Q (0) rfl (u8s (pin.getD zh)) (((Has.refl _)).range hw.2.1) ((szH KPH.out))) ⟨X_314, Q_314, T_314, D_314, trivial⟩ ?_
              simp only [Act.put, List.setIfInBounds_toArray, List.set_cons_zero, List.set_cons_succ]
              refine h_take 38 (.pointer (some ⟨T, 0, none⟩)) rfl 175 rfl (by kernel_rfl) (by kernel_rfl) (by kernel_rfl) (by kernel_rfl) (fun _ _ _ h => h) (fun w' _ => by kernel_rfl) ⟨X_314, Q_314, T_314, D_314, trivial⟩ ?_
              simp only [Act.put, List.setIfInBounds_toArray, List.set_cons_zero, List.set_cons_succ]
              refine h_take 39 (.pointer (some ⟨T, 0, none⟩)) rfl 176 rfl (by kernel_rfl) (by kernel_rfl) (by kernel_rfl) (by kernel_rfl) (fun _ _ _ h => h) (fun w' _ => by kernel_rfl) ⟨X_314, Q_314, T_314, D_314, trivial⟩ ?_
              simp only [Act.put, List.setIfInBounds_toArray, List.set_cons_zero, List.set_cons_succ]
              refine h_take 40 (.pointer (some ⟨T, 4, none⟩)) rfl 177 rfl (by kernel_rfl) (by kernel_rfl) (by kernel_rfl) (by kernel_rfl) (fun _ _ _ h => h) (fun w' _ => by kernel_rfl) ⟨X_314, Q_314, T_314, D_314, trivial⟩ ?_
              simp only [Act.put, List.setIfInBounds_toArray, List.set_cons_zero, List.set_cons_succ]
              refine h_take 41 (.agg (u8s (pin.getD zh)).toArray) rfl 178 rfl (by kernel_rfl) (by kernel_rfl) (by kernel_rfl) (by kernel_rfl) (fun _ _ _ h => h) (fun w' hw => run_op_load _ _ rfl T (4) rfl (u8s (pin.getD zh)) ((ncs_pin).range hw.2.2.1) ((szH KPH.out))) ⟨X_314, Q_314, T_314, D_314, trivial⟩ ?_
              simp only [Act.put, List.setIfInBounds_toArray, List.set_cons_zero, List.set_cons_succ]
              refine h_take 42 (.bool false) rfl 179 rfl (by kernel_rfl) (by kernel_rfl) (by kernel_rfl) (by kernel_rfl) (fun _ _ _ h => h) (fun w' _ => run_op_neqW _ _ _ rfl (pin.getD zh) (pin.getD zh) KPH.out KPH.out rfl rfl false (by rw [decide_eq_true rfl]; rfl) w') ⟨X_314, Q_314, T_314, D_314, trivial⟩ ?_
              simp only [Act.put, List.setIfInBounds_toArray, List.set_cons_zero, List.set_cons_succ]
              refine h_take 43 (.bool false) rfl 180 rfl (by kernel_rfl) (by kernel_rfl) (by kernel_rfl) (by kernel_rfl) (fun _ _ _ h => h) (fun w' _ => by kernel_rfl) ⟨X_314, Q_314, T_314, D_314, trivial⟩ ?_
              simp only [Act.put, List.setIfInBounds_toArray, List.set_cons_zero, List.set_cons_succ]
              refine h_take 44 (.bool false) rfl 181 rfl (by kernel_rfl) (by kernel_rfl) (by kernel_rfl) (by kernel_rfl) (fun _ _ _ h => h) (fun w' _ => by kernel_rfl) ⟨X_314, Q_314, T_314, D_314, trivial⟩ ?_
              simp only [Act.put, List.setIfInBounds_toArray, List.set_cons_zero, List.set_cons_succ]
              refine h_take 45 (.pointer (some ⟨S, 0, none⟩)) rfl 182 rfl (by kernel_rfl) (by kernel_rfl) (by kernel_rfl) (by kernel_rfl) (fun _ _ _ h => h) (fun w' _ => by kernel_rfl) ⟨X_314, Q_314, T_314, D_314, trivial⟩ ?_
              simp only [Act.put, List.setIfInBounds_toArray, List.set_cons_zero, List.set_cons_succ]
              refine h_take 47 (.pointer (some ⟨T, 0, none⟩)) rfl 184 rfl (by kernel_rfl) (by kernel_rfl) (by kernel_rfl) (by kernel_rfl) (fun _ _ _ h => h) (fun w' _ => by kernel_rfl) ⟨X_314, Q_314, T_314, D_314, trivial⟩ ?_
              simp only [Act.put, List.setIfInBounds_toArray, List.set_cons_zero, List.set_cons_succ]
              refine h_take 48 (.pointer (some ⟨T, 0, none⟩)) rfl 185 rfl (by kernel_rfl) (by kernel_rfl) (by kernel_rfl) (by kernel_rfl) (fun _ _ _ h => h) (fun w' _ => by kernel_rfl) ⟨X_314, Q_314, T_314, D_314, trivial⟩ ?_
              simp only [Act.put, List.setIfInBounds_toArray, List.set_cons_zero, List.set_cons_succ]
              refine h_take 49 (.pointer (some ⟨T, 0, none⟩)) rfl 186 rfl (by kernel_rfl) (by kernel_rfl) (by kernel_rfl) (by kernel_rfl) (fun _ _ _ h => h) (fun w' _ => by kernel_rfl) ⟨X_314, Q_314, T_314, D_314, trivial⟩ ?_
              simp only [Act.put, List.setIfInBounds_toArray, List.set_cons_zero, List.set_cons_succ]
              refine h_take 50 (.slice (some ⟨g1, o1, none⟩) L.length cl) rfl 187 rfl (by kernel_rfl) (by kernel_rfl) (by kernel_rfl) (by kernel_rfl) (fun _ _ _ h => h) (fun w' hw => run_op_load1 _ _ rfl (.slice 55) fR.und rfl ⟨T, 0, none⟩ rfl (.slice (some ⟨g1, o1, none⟩) L.length cl) (hw.2.2.1.cell (i := 0) rfl)) ⟨X_314, Q_314, T_314, D_314, trivial⟩ ?_
              simp only [Act.put, List.setIfInBounds_toArray, List.set_cons_zero, List.set_cons_succ]
              refine h_take 51 (.int .i64 (L.length : Int)) rfl 188 rfl (by kernel_rfl) (by kernel_rfl) (by kernel_rfl) (by kernel_rfl) (fun _ _ _ h => h) (fun w' _ => Sl.run_op_lenK _ _ _ rfl fR.und _ _ _ rfl w') ⟨X_314, Q_314, T_314, D_314, trivial⟩ ?_
              simp only [Act.put, List.setIfInBounds_toArray, List.set_cons_zero, List.set_cons_succ]
              refine h_one (i := 46) (by kernel_rfl) (o_call rfl 183 rfl (by kernel_rfl) (run_op_call 18 _ _ rfl #[.pointer (some ⟨S, 0, none⟩)] (by simp only [List.map_toArray, List.map_cons, List.map_nil]; rfl) Tryz.func18 (by kernel_rfl) (by kernel_rfl) _) (len_to V_314 rfl) ?_)
              rintro e _ ⟨rfl, rfl⟩
              refine ⟨_, rfl, ⟨X_314, Q_314, T_314, D_314, trivial⟩, ?_⟩
              simp only [Act.put, List.setIfInBounds_toArray, List.set_cons_zero, List.set_cons_succ]
              refine h_take 52 (.bool false) rfl 189 rfl (by kernel_rfl) (by kernel_rfl) (by kernel_rfl) (by kernel_rfl) (fun _ _ _ h => h) (fun w' _ => cmp_neq _ _ .i64 (by kernel_rfl) _ _ rfl .i64 (L.length : Int) (L.length : Int) rfl rfl false (decide_eq_true rfl) w') ⟨X_314, Q_314, T_314, D_314, trivial⟩ ?_
              simp only [Act.put, List.setIfInBounds_toArray, List.set_cons_zero, List.set_cons_succ]
              refine h_take 53 (.bool false) rfl 190 rfl (by kernel_rfl) (by kernel_rfl) (by kernel_rfl) (by kernel_rfl) (fun _ _ _ h => h) (fun w' _ => by kernel_rfl) ⟨X_314, Q_314, T_314, D_314, trivial⟩ ?_
              simp only [Act.put, List.setIfInBounds_toArray, List.set_cons_zero, List.set_cons_succ]
              refine h_take 54 (.bool false) rfl 191 rfl (by kernel_rfl) (by kernel_rfl) (by kernel_rfl) (by kernel_rfl) (fun _ _ _ h => h) (fun w' _ => by kernel_rfl) ⟨X_314, Q_314, T_314, D_314, trivial⟩ ?_
              simp only [Act.put, List.setIfInBounds_toArray, List.set_cons_zero, List.set_cons_succ]
              refine h_take 55 (.pointer (some ⟨S, 0, none⟩)) rfl 192 rfl (by kernel_rfl) (by kernel_rfl) (by kernel_rfl) (by kernel_rfl) (fun _ _ _ h => h) (fun w' _ => by kernel_rfl) ⟨X_314, Q_314, T_314, D_314, trivial⟩ ?_
              simp only [Act.put, List.setIfInBounds_toArray, List.set_cons_zero, List.set_cons_succ]
              refine h_take 58 (.pointer (some ⟨T, 0, none⟩)) rfl 195 rfl (by kernel_rfl) (by kernel_rfl) (by kernel_rfl) (by kernel_rfl) (fun _ _ _ h => h) (fun w' _ => by kernel_rfl) ⟨X_314, Q_314, T_314, D_314, trivial⟩ ?_
              simp only [Act.put, List.setIfInBounds_toArray, List.set_cons_zero, List.set_cons_succ]
              refine h_take 59 (.pointer (some ⟨T, 0, none⟩)) rfl 196 rfl (by kernel_rfl) (by kernel_rfl) (by kernel_rfl) (by kernel_rfl) (fun _ _ _ h => h) (fun w' _ => by kernel_rfl) ⟨X_314, Q_314, T_314, D_314, trivial⟩ ?_
              simp only [Act.put, List.setIfInBounds_toArray, List.set_cons_zero, List.set_cons_succ]
              refine h_take 60 (.pointer (some ⟨T, 1, none⟩)) rfl 197 rfl (by kernel_rfl) (by kernel_rfl) (by kernel_rfl) (by kernel_rfl) (fun _ _ _ h => h) (fun w' _ => by kernel_rfl) ⟨X_314, Q_314, T_314, D_314, trivial⟩ ?_
              simp only [Act.put, List.setIfInBounds_toArray, List.set_cons_zero, List.set_cons_succ]
              refine h_take 61 (.slice pk L.length ck) rfl 198 rfl (by kernel_rfl) (by kernel_rfl) (by kernel_rfl) (by kernel_rfl) (fun _ _ _ h => h) (fun w' hw => run_op_load1 _ _ rfl (.slice 84) fRK.und rfl ⟨T, 1, none⟩ rfl (.slice pk L.length ck) (hw.2.2.1.cell (i := 1) rfl)) ⟨X_314, Q_314, T_314, D_314, trivial⟩ ?_
              simp only [Act.put, List.setIfInBounds_toArray, List.set_cons_zero, List.set_cons_succ]
              refine h_one (i := 56) (by kernel_rfl) (o_call rfl 193 rfl (by kernel_rfl) (run_op_call 21 _ _ rfl #[.pointer (some ⟨S, 0, none⟩)] (by simp only [List.map_toArray, List.map_cons, List.map_nil]; rfl) Tryz.func21 (by kernel_rfl) (by kernel_rfl) _) (pkeys_any V_314 HR100.out) ?_)
              rintro e y315 ⟨⟨kp, kc, rfl, hKO⟩, hB⟩
              have V_316 : PAt y315 F S r pin (L) := V_314.old hB
              have U_316 : RSAt y315 G T r pin (L) := U_314.old hB
              have H_316 : Row y315 H 32 (u8s (digS a.s)) := H_314.old hB
              have X_316 : Row y315 X 44 (scs xg) := X_314.old hB
              have Q_316 : Row y315 Q 32 (u8s (pin.getD zh)) := Q_314.old hB
              have T_316 : Row y315 T 68 (ncs (some ⟨g1, o1, none⟩) L.length cl pk L.length ck r pin) := T_314.old hB
              have OK_316 : Sl.Own kRK y315 0 pk ck (L.map keyN) := OK_314.below hB
              have D_316 : y315.rangeAt g1 (o1 + n * 363) (scs xg) := range_s KXG.out D_314 hB
              have bel_316 : Chg (fun _ => False) w y315 := bel_314.old hB
              clear V_314 U_314 H_314 X_314 Q_314 T_314 OK_314 D_314 bel_314 hB
              replace hKO := hKO.low (Nat.zero_le _)
              refine ⟨_, rfl, ⟨X_316, Q_316, T_316, D_316, trivial⟩, ?_⟩
              simp only [Act.put, List.setIfInBounds_toArray, List.set_cons_zero, List.set_cons_succ]
              refine h_one (i := 57) (by kernel_rfl) (o_call rfl 194 rfl (by kernel_rfl) (run_op_call 20 _ _ rfl #[.slice kp L.length kc] (by simp only [List.map_toArray, List.map_cons, List.map_nil]; rfl) Tryz.func20 (by kernel_rfl) (by kernel_rfl) _) (keys_to (hKO.at Od.fK) HL1.out) ?_)
              rintro e y317 ⟨⟨mp, mc, rfl, hMO⟩, hB⟩
              have V_318 : PAt y317 F S r pin (L) := V_316.old hB
              have U_318 : RSAt y317 G T r pin (L) := U_316.old hB
              have H_318 : Row y317 H 32 (u8s (digS a.s)) := H_316.old hB
              have X_318 : Row y317 X 44 (scs xg) := X_316.old hB
              have Q_318 : Row y317 Q 32 (u8s (pin.getD zh)) := Q_316.old hB
              have T_318 : Row y317 T 68 (ncs (some ⟨g1, o1, none⟩) L.length cl pk L.length ck r pin) := T_316.old hB
              have OK_318 : Sl.Own kRK y317 0 pk ck (L.map keyN) := OK_316.below hB
              have D_318 : y317.rangeAt g1 (o1 + n * 363) (scs xg) := range_s KXG.out D_316 hB
              have K_318 : Sl.Own Od.kK y317 0 kp kc (L.map keyN) := hKO.below hB
              have bel_318 : Chg (fun _ => False) w y317 := bel_316.old hB
              clear V_316 U_316 H_316 X_316 Q_316 T_316 OK_316 D_316 hKO bel_316 hB
              replace hMO := hMO.low (Nat.zero_le _)
              refine ⟨_, rfl, ⟨X_318, Q_318, T_318, D_318, trivial⟩, ?_⟩
              simp only [Act.put, List.setIfInBounds_toArray, List.set_cons_zero, List.set_cons_succ]
              refine h_one (i := 62) (by kernel_rfl) (o_call rfl 199 rfl (by kernel_rfl) (run_op_call 19 _ _ rfl #[.slice mp L.length mc, .slice pk L.length ck] (by simp only [List.map_toArray, List.map_cons, List.map_nil]; rfl) Tryz.func19 (by kernel_rfl) (by kernel_rfl) _) (same_to (hMO.at fRK) (OK_318.at fRK) HL1.out) ?_)
              rintro e y319 ⟨rfl, hB⟩
              have V_320 : PAt y319 F S r pin (L) := V_318.old hB
              have U_320 : RSAt y319 G T r pin (L) := U_318.old hB
              have H_320 : Row y319 H 32 (u8s (digS a.s)) := H_318.old hB
              have X_320 : Row y319 X 44 (scs xg) := X_318.old hB
              have Q_320 : Row y319 Q 32 (u8s (pin.getD zh)) := Q_318.old hB
              have T_320 : Row y319 T 68 (ncs (some ⟨g1, o1, none⟩) L.length cl pk L.length ck r pin) := T_318.old hB
              have OK_320 : Sl.Own kRK y319 0 pk ck (L.map keyN) := OK_318.below hB
              have D_320 : y319.rangeAt g1 (o1 + n * 363) (scs xg) := range_s KXG.out D_318 hB
              have K_320 : Sl.Own Od.kK y319 0 kp kc (L.map keyN) := K_318.below hB
              have M_320 : Sl.Own kRK y319 0 mp mc (L.map keyN) := hMO.below hB
              have bel_320 : Chg (fun _ => False) w y319 := bel_318.old hB
              clear V_318 U_318 H_318 X_318 Q_318 T_318 OK_318 D_318 K_318 hMO bel_318 hB
              refine ⟨_, rfl, ⟨X_320, Q_320, T_320, D_320, trivial⟩, ?_⟩
              simp only [Act.put, List.setIfInBounds_toArray, List.set_cons_zero, List.set_cons_succ]
              refine h_take 63 (.bool false) rfl 200 rfl (by kernel_rfl) (by kernel_rfl) (by kernel_rfl) (by kernel_rfl) (fun _ _ _ h => h) (fun w' _ => by kernel_rfl) ⟨X_320, Q_320, T_320, D_320, trivial⟩ ?_
              simp only [Act.put, List.setIfInBounds_toArray, List.set_cons_zero, List.set_cons_succ]
              refine h_take 64 (.bool false) rfl 201 rfl (by kernel_rfl) (by kernel_rfl) (by kernel_rfl) (by kernel_rfl) (fun _ _ _ h => h) (fun w' _ => by kernel_rfl) ⟨X_320, Q_320, T_320, D_320, trivial⟩ ?_
              simp only [Act.put, List.setIfInBounds_toArray, List.set_cons_zero, List.set_cons_succ]
              refine wpAnyH_done (by kernel_rfl) ?_ _
              go_wp2_with fail
              go_roundw
              case rel => exact ⟨⟨k + 1, by omega, by go_num⟩, ⟨F, G, L, pin, V_320, U_320, fr, gr, hFG⟩, (bel_320.below (fun k hk => hk.elim) (Nat.le_refl _))⟩
              case measure => simp [intOf]; omega
            · as_aux_lemma =>
              have dZ : decide ((-1 : Int) ≥ 0) = false := rfl
              refine wp_region_held (S := fun w' => Row w' X 44 (scs zs) ∧ Row w' Q 32 (u8s (pin.getD zh)) ∧ Row w' T 68 (ncs pl L.length cl pk L.length ck r pin) ∧ True) (by kernel_rfl) ?_
              change wpAnyH _ _ _ _ _ _ _ _ v309.drew
              have hd311 : Below v309.heap.size v309 v309.drew := (Below.refl _ _).drew
              have V_312 : PAt v309.drew F S r pin (L) := V_310.old hd311
              have U_312 : RSAt v309.drew G T r pin (L) := U_310.old hd311
              have H_312 : Row v309.drew H 32 (u8s (digS a.s)) := H_310.old hd311
              have X_312 : Row v309.drew X 44 (scs zs) := X_310.old hd311
              have Q_312 : Row v309.drew Q 32 (u8s (pin.getD zh)) := rrQ.old hd311
              have T_312 : Row v309.drew T 68 (ncs pl L.length cl pk L.length ck r pin) := hR.old hd311
              have OK_312 : Sl.Own kRK v309.drew 0 pk ck (L.map keyN) := hOK.below hd311
              have bel_312 : Chg (fun _ => False) w v309.drew := bel_310.old hd311
              clear V_310 U_310 H_310 X_310 rrQ hR hOK bel_310 hd311
              generalize v309.drew = yz311 at V_312 U_312 H_312 X_312 Q_312 T_312 OK_312 bel_312 ⊢
              refine h_take 0 (.bool false) rfl 137 rfl (by kernel_rfl) (by kernel_rfl) (by kernel_rfl) (by kernel_rfl) (fun _ _ _ h => h) (fun w' _ => by kernel_rfl) ⟨X_312, Q_312, T_312, trivial⟩ ?_
              simp only [Act.put, List.setIfInBounds_toArray, List.set_cons_zero, List.set_cons_succ]
              refine h_take 1 (.int .i64 (-1)) rfl 138 rfl (by kernel_rfl) (by kernel_rfl) (by kernel_rfl) (by kernel_rfl) (fun _ _ _ h => h) (fun w' _ => by kernel_rfl) ⟨X_312, Q_312, T_312, trivial⟩ ?_
              simp only [Act.put, List.setIfInBounds_toArray, List.set_cons_zero, List.set_cons_succ]
              refine h_take 2 (.bool false) rfl 139 rfl (by kernel_rfl) (by kernel_rfl) (by kernel_rfl) (by kernel_rfl) (fun _ _ _ h => h) (fun w' _ => cmp_geq _ _ _ _ rfl .i64 (-1) 0 rfl rfl false dZ w') ⟨X_312, Q_312, T_312, trivial⟩ ?_
              simp only [Act.put, List.setIfInBounds_toArray, List.set_cons_zero, List.set_cons_succ]
              refine h_take 3 (.bool false) rfl 140 rfl (by kernel_rfl) (by kernel_rfl) (by kernel_rfl) (by kernel_rfl) (fun _ _ _ h => h) (fun w' _ => run_op_neqBB' _ _ _ rfl false false rfl rfl false rfl w') ⟨X_312, Q_312, T_312, trivial⟩ ?_
              simp only [Act.put, List.setIfInBounds_toArray, List.set_cons_zero, List.set_cons_succ]
              refine h_take 4 (.bool false) rfl 141 rfl (by kernel_rfl) (by kernel_rfl) (by kernel_rfl) (by kernel_rfl) (fun _ _ _ h => h) (fun w' _ => by kernel_rfl) ⟨X_312, Q_312, T_312, trivial⟩ ?_
              simp only [Act.put, List.setIfInBounds_toArray, List.set_cons_zero, List.set_cons_succ]
              refine h_take 5 (.bool false) rfl 142 rfl (by kernel_rfl) (by kernel_rfl) (by kernel_rfl) (by kernel_rfl) (fun _ _ _ h => h) (fun w' _ => by kernel_rfl) ⟨X_312, Q_312, T_312, trivial⟩ ?_
              simp only [Act.put, List.setIfInBounds_toArray, List.set_cons_zero, List.set_cons_succ]
              refine h_take 6 (.bool false) rfl 143 rfl (by kernel_rfl) (by kernel_rfl) (by kernel_rfl) (by kernel_rfl) (fun _ _ _ h => h) (fun w' _ => by kernel_rfl) ⟨X_312, Q_312, T_312, trivial⟩ ?_
              simp only [Act.put, List.setIfInBounds_toArray, List.set_cons_zero, List.set_cons_succ]
              refine h_pass 7 rfl 144 rfl (by kernel_rfl) (by kernel_rfl) (by kernel_rfl) (by kernel_rfl) (fun _ _ _ h => h) ⟨X_312, Q_312, T_312, trivial⟩ ?_
              simp only [Act.put, List.setIfInBounds_toArray, List.set_cons_zero, List.set_cons_succ]
              refine h_pass 8 rfl 145 rfl (by kernel_rfl) (by kernel_rfl) (by kernel_rfl) (by kernel_rfl) (fun _ _ _ h => h) ⟨X_312, Q_312, T_312, trivial⟩ ?_
              simp only [Act.put, List.setIfInBounds_toArray, List.set_cons_zero, List.set_cons_succ]
              refine h_pass 9 rfl 146 rfl (by kernel_rfl) (by kernel_rfl) (by kernel_rfl) (by kernel_rfl) (fun _ _ _ h => h) ⟨X_312, Q_312, T_312, trivial⟩ ?_
              simp only [Act.put, List.setIfInBounds_toArray, List.set_cons_zero, List.set_cons_succ]
              refine h_pass 10 rfl 147 rfl (by kernel_rfl) (by kernel_rfl) (by kernel_rfl) (by kernel_rfl) (fun _ _ _ h => h) ⟨X_312, Q_312, T_312, trivial⟩ ?_
              simp only [Act.put, List.setIfInBounds_toArray, List.set_cons_zero, List.set_cons_succ]
              refine h_pass 11 rfl 148 rfl (by kernel_rfl) (by kernel_rfl) (by kernel_rfl) (by kernel_rfl) (fun _ _ _ h => h) ⟨X_312, Q_312, T_312, trivial⟩ ?_
              simp only [Act.put, List.setIfInBounds_toArray, List.set_cons_zero, List.set_cons_succ]
              refine h_pass 12 rfl 149 rfl (by kernel_rfl) (by kernel_rfl) (by kernel_rfl) (by kernel_rfl) (fun _ _ _ h => h) ⟨X_312, Q_312, T_312, trivial⟩ ?_
              simp only [Act.put, List.setIfInBounds_toArray, List.set_cons_zero, List.set_cons_succ]
              refine h_pass 13 rfl 150 rfl (by kernel_rfl) (by kernel_rfl) (by kernel_rfl) (by kernel_rfl) (fun _ _ _ h => h) ⟨X_312, Q_312, T_312, trivial⟩ ?_
              simp only [Act.put, List.setIfInBounds_toArray, List.set_cons_zero, List.set_cons_succ]
              refine h_pass 14 rfl 151 rfl (by kernel_rfl) (by kernel_rfl) (by kernel_rfl) (by kernel_rfl) (fun _ _ _ h => h) ⟨X_312, Q_312, T_312, trivial⟩ ?_
              simp only [Act.put, List.setIfInBounds_toArray, List.set_cons_zero, List.set_cons_succ]
              refine h_pass 15 rfl 152 rfl (by kernel_rfl) (by kernel_rfl) (by kernel_rfl) (by kernel_rfl) (fun _ _ _ h => h) ⟨X_312, Q_312, T_312, trivial⟩ ?_
              simp only [Act.put, List.setIfInBounds_toArray, List.set_cons_zero, List.set_cons_succ]
              refine h_pass 16 rfl 153 rfl (by kernel_rfl) (by kernel_rfl) (by kernel_rfl) (by kernel_rfl) (fun _ _ _ h => h) ⟨X_312, Q_312, T_312, trivial⟩ ?_
              simp only [Act.put, List.setIfInBounds_toArray, List.set_cons_zero, List.set_cons_succ]
              refine h_take 17 (.bool false) rfl 154 rfl (by kernel_rfl) (by kernel_rfl) (by kernel_rfl) (by kernel_rfl) (fun _ _ _ h => h) (fun w' _ => by kernel_rfl) ⟨X_312, Q_312, T_312, trivial⟩ ?_
              simp only [Act.put, List.setIfInBounds_toArray, List.set_cons_zero, List.set_cons_succ]
              refine h_take 18 (.bool false) rfl 155 rfl (by kernel_rfl) (by kernel_rfl) (by kernel_rfl) (by kernel_rfl) (fun _ _ _ h => h) (fun w' _ => by kernel_rfl) ⟨X_312, Q_312, T_312, trivial⟩ ?_
              simp only [Act.put, List.setIfInBounds_toArray, List.set_cons_zero, List.set_cons_succ]
              refine h_take 19 (.bool false) rfl 156 rfl (by kernel_rfl) (by kernel_rfl) (by kernel_rfl) (by kernel_rfl) (fun _ _ _ h => h) (fun w' _ => by kernel_rfl) ⟨X_312, Q_312, T_312, trivial⟩ ?_
              simp only [Act.put, List.setIfInBounds_toArray, List.set_cons_zero, List.set_cons_succ]
              refine h_take 20 (.bool false) rfl 157 rfl (by kernel_rfl) (by kernel_rfl) (by kernel_rfl) (by kernel_rfl) (fun _ _ _ h => h) (fun w' _ => by kernel_rfl) ⟨X_312, Q_312, T_312, trivial⟩ ?_
              simp only [Act.put, List.setIfInBounds_toArray, List.set_cons_zero, List.set_cons_succ]
              refine h_take 21 (.bool true) rfl 158 rfl (by kernel_rfl) (by kernel_rfl) (by kernel_rfl) (by kernel_rfl) (fun _ _ _ h => h) (fun w' _ => by kernel_rfl) ⟨X_312, Q_312, T_312, trivial⟩ ?_
              simp only [Act.put, List.setIfInBounds_toArray, List.set_cons_zero, List.set_cons_succ]
              refine h_take 22 (.bool true) rfl 159 rfl (by kernel_rfl) (by kernel_rfl) (by kernel_rfl) (by kernel_rfl) (fun _ _ _ h => h) (fun w' _ => by kernel_rfl) ⟨X_312, Q_312, T_312, trivial⟩ ?_
              simp only [Act.put, List.setIfInBounds_toArray, List.set_cons_zero, List.set_cons_succ]
              refine h_take 23 (.agg (scs zs).toArray) rfl 160 rfl (by kernel_rfl) (by kernel_rfl) (by kernel_rfl) (by kernel_rfl) (fun _ _ _ h => h) (fun w' hw => run_op_load _ _ rfl X (0) rfl (scs zs) (((Has.refl _)).range hw.1) ((sz_sta zs_ok))) ⟨X_312, Q_312, T_312, trivial⟩ ?_
              simp only [Act.put, List.setIfInBounds_toArray, List.set_cons_zero, List.set_cons_succ]
              refine h_take 24 (.agg (scs zs).toArray) rfl 161 rfl (by kernel_rfl) (by kernel_rfl) (by kernel_rfl) (by kernel_rfl) (fun _ _ _ h => h) (fun w' _ => run_op_build _ _ rfl (scs zs) (by kernel_rfl) w') ⟨X_312, Q_312, T_312, trivial⟩ ?_
              simp only [Act.put, List.setIfInBounds_toArray, List.set_cons_zero, List.set_cons_succ]
              refine h_take 25 (.bool false) rfl 162 rfl (by kernel_rfl) (by kernel_rfl) (by kernel_rfl) (by kernel_rfl) (fun _ _ _ h => h) (fun w' _ => Sa.run_op_neqS zs_ok zs_ok _ _ _ rfl rfl rfl true ⟨fun _ => rfl, fun _ => rfl⟩ w') ⟨X_312, Q_312, T_312, trivial⟩ ?_
              simp only [Act.put, List.setIfInBounds_toArray, List.set_cons_zero, List.set_cons_succ]
              refine h_take 26 (.bool false) rfl 163 rfl (by kernel_rfl) (by kernel_rfl) (by kernel_rfl) (by kernel_rfl) (fun _ _ _ h => h) (fun w' _ => by kernel_rfl) ⟨X_312, Q_312, T_312, trivial⟩ ?_
              simp only [Act.put, List.setIfInBounds_toArray, List.set_cons_zero, List.set_cons_succ]
              refine h_take 27 (.bool false) rfl 164 rfl (by kernel_rfl) (by kernel_rfl) (by kernel_rfl) (by kernel_rfl) (fun _ _ _ h => h) (fun w' _ => by kernel_rfl) ⟨X_312, Q_312, T_312, trivial⟩ ?_
              simp only [Act.put, List.setIfInBounds_toArray, List.set_cons_zero, List.set_cons_succ]
              refine h_take 28 (.bool false) rfl 165 rfl (by kernel_rfl) (by kernel_rfl) (by kernel_rfl) (by kernel_rfl) (fun _ _ _ h => h) (fun w' _ => by kernel_rfl) ⟨X_312, Q_312, T_312, trivial⟩ ?_
              simp only [Act.put, List.setIfInBounds_toArray, List.set_cons_zero, List.set_cons_succ]
              refine h_take 29 (.bool pin.isSome) rfl 166 rfl (by kernel_rfl) (by kernel_rfl) (by kernel_rfl) (by kernel_rfl) (fun _ _ _ h => h) (fun w' _ => by kernel_rfl) ⟨X_312, Q_312, T_312, trivial⟩ ?_
              simp only [Act.put, List.setIfInBounds_toArray, List.set_cons_zero, List.set_cons_succ]
              refine h_take 30 (.pointer (some ⟨T, 0, none⟩)) rfl 167 rfl (by kernel_rfl) (by kernel_rfl) (by kernel_rfl) (by kernel_rfl) (fun _ _ _ h => h) (fun w' _ => by kernel_rfl) ⟨X_312, Q_312, T_312, trivial⟩ ?_
              simp only [Act.put, List.setIfInBounds_toArray, List.set_cons_zero, List.set_cons_succ]
              refine h_take 31 (.pointer (some ⟨T, 0, none⟩)) rfl 168 rfl (by kernel_rfl) (by kernel_rfl) (by kernel_rfl) (by kernel_rfl) (fun _ _ _ h => h) (fun w' _ => by kernel_rfl) ⟨X_312, Q_312, T_312, trivial⟩ ?_
              simp only [Act.put, List.setIfInBounds_toArray, List.set_cons_zero, List.set_cons_succ]
              refine h_take 32 (.pointer (some ⟨T, 3, none⟩)) rfl 169 rfl (by kernel_rfl) (by kernel_rfl) (by kernel_rfl) (by kernel_rfl) (fun _ _ _ h => h) (fun w' _ => by kernel_rfl) ⟨X_312, Q_312, T_312, trivial⟩ ?_
              simp only [Act.put, List.setIfInBounds_toArray, List.set_cons_zero, List.set_cons_succ]
              refine h_take 33 (.bool pin.isSome) rfl 170 rfl (by kernel_rfl) (by kernel_rfl) (by kernel_rfl) (by kernel_rfl) (fun _ _ _ h => h) (fun w' hw => run_op_load1 _ _ rfl (.bool) (by kernel_rfl) rfl ⟨T, 3, none⟩ rfl (.bool pin.isSome) (hw.2.2.1.cell (i := 3) rfl)) ⟨X_312, Q_312, T_312, trivial⟩ ?_
              simp only [Act.put, List.setIfInBounds_toArray, List.set_cons_zero, List.set_cons_succ]
              refine h_take 34 (.bool false) rfl 171 rfl (by kernel_rfl) (by kernel_rfl) (by kernel_rfl) (by kernel_rfl) (fun _ _ _ h => h) (fun w' _ => run_op_neqBB' _ _ _ rfl pin.isSome pin.isSome rfl rfl false (by cases pin.isSome <;> rfl) w') ⟨X_312, Q_312, T_312, trivial⟩ ?_
              simp only [Act.put, List.setIfInBounds_toArray, List.set_cons_zero, List.set_cons_succ]
              refine h_take 35 (.bool false) rfl 172 rfl (by kernel_rfl) (by kernel_rfl) (by kernel_rfl) (by kernel_rfl) (fun _ _ _ h => h) (fun w' _ => by kernel_rfl) ⟨X_312, Q_312, T_312, trivial⟩ ?_
              simp only [Act.put, List.setIfInBounds_toArray, List.set_cons_zero, List.set_cons_succ]
              refine h_take 36 (.bool false) rfl 173 rfl (by kernel_rfl) (by kernel_rfl) (by kernel_rfl) (by kernel_rfl) (fun _ _ _ h => h) (fun w' _ => by kernel_rfl) ⟨X_312, Q_312, T_312, trivial⟩ ?_
              simp only [Act.put, List.setIfInBounds_toArray, List.set_cons_zero, List.set_cons_succ]
              refine h_take 37 (.agg (u8s (pin.getD zh)).toArray) rfl 174 rfl (by kernel_rfl) (by kernel_rfl) (by kernel_rfl) (by kernel_rfl) (fun _ _ _ h => h) (fun w' hw => run_op_load _ _ rfl Q (0) rfl (u8s (pin.getD zh)) (((Has.refl _)).range hw.2.1) ((szH KPH.out))) ⟨X_312, Q_312, T_312, trivial⟩ ?_
              simp only [Act.put, List.setIfInBounds_toArray, List.set_cons_zero, List.set_cons_succ]
              refine h_take 38 (.pointer (some ⟨T, 0, none⟩)) rfl 175 rfl (by kernel_rfl) (by kernel_rfl) (by kernel_rfl) (by kernel_rfl) (fun _ _ _ h => h) (fun w' _ => by kernel_rfl) ⟨X_312, Q_312, T_312, trivial⟩ ?_
              simp only [Act.put, List.setIfInBounds_toArray, List.set_cons_zero, List.set_cons_succ]
              refine h_take 39 (.pointer (some ⟨T, 0, none⟩)) rfl 176 rfl (by kernel_rfl) (by kernel_rfl) (by kernel_rfl) (by kernel_rfl) (fun _ _ _ h => h) (fun w' _ => by kernel_rfl) ⟨X_312, Q_312, T_312, trivial⟩ ?_
              simp only [Act.put, List.setIfInBounds_toArray, List.set_cons_zero, List.set_cons_succ]
              refine h_take 40 (.pointer (some ⟨T, 4, none⟩)) rfl 177 rfl (by kernel_rfl) (by kernel_rfl) (by kernel_rfl) (by kernel_rfl) (fun _ _ _ h => h) (fun w' _ => by kernel_rfl) ⟨X_312, Q_312, T_312, trivial⟩ ?_
              simp only [Act.put, List.setIfInBounds_toArray, List.set_cons_zero, List.set_cons_succ]
              refine h_take 41 (.agg (u8s (pin.getD zh)).toArray) rfl 178 rfl (by kernel_rfl) (by kernel_rfl) (by kernel_rfl) (by kernel_rfl) (fun _ _ _ h => h) (fun w' hw => run_op_load _ _ rfl T (4) rfl (u8s (pin.getD zh)) ((ncs_pin).range hw.2.2.1) ((szH KPH.out))) ⟨X_312, Q_312, T_312, trivial⟩ ?_
              simp only [Act.put, List.setIfInBounds_toArray, List.set_cons_zero, List.set_cons_succ]
              refine h_take 42 (.bool false) rfl 179 rfl (by kernel_rfl) (by kernel_rfl) (by kernel_rfl) (by kernel_rfl) (fun _ _ _ h => h) (fun w' _ => run_op_neqW _ _ _ rfl (pin.getD zh) (pin.getD zh) KPH.out KPH.out rfl rfl false (by rw [decide_eq_true rfl]; rfl) w') ⟨X_312, Q_312, T_312, trivial⟩ ?_
              simp only [Act.put, List.setIfInBounds_toArray, List.set_cons_zero, List.set_cons_succ]
              refine h_take 43 (.bool false) rfl 180 rfl (by kernel_rfl) (by kernel_rfl) (by kernel_rfl) (by kernel_rfl) (fun _ _ _ h => h) (fun w' _ => by kernel_rfl) ⟨X_312, Q_312, T_312, trivial⟩ ?_
              simp only [Act.put, List.setIfInBounds_toArray, List.set_cons_zero, List.set_cons_succ]
              refine h_take 44 (.bool false) rfl 181 rfl (by kernel_rfl) (by kernel_rfl) (by kernel_rfl) (by kernel_rfl) (fun _ _ _ h => h) (fun w' _ => by kernel_rfl) ⟨X_312, Q_312, T_312, trivial⟩ ?_
              simp only [Act.put, List.setIfInBounds_toArray, List.set_cons_zero, List.set_cons_succ]
              refine h_take 45 (.pointer (some ⟨S, 0, none⟩)) rfl 182 rfl (by kernel_rfl) (by kernel_rfl) (by kernel_rfl) (by kernel_rfl) (fun _ _ _ h => h) (fun w' _ => by kernel_rfl) ⟨X_312, Q_312, T_312, trivial⟩ ?_
              simp only [Act.put, List.setIfInBounds_toArray, List.set_cons_zero, List.set_cons_succ]
              refine h_take 47 (.pointer (some ⟨T, 0, none⟩)) rfl 184 rfl (by kernel_rfl) (by kernel_rfl) (by kernel_rfl) (by kernel_rfl) (fun _ _ _ h => h) (fun w' _ => by kernel_rfl) ⟨X_312, Q_312, T_312, trivial⟩ ?_
              simp only [Act.put, List.setIfInBounds_toArray, List.set_cons_zero, List.set_cons_succ]
              refine h_take 48 (.pointer (some ⟨T, 0, none⟩)) rfl 185 rfl (by kernel_rfl) (by kernel_rfl) (by kernel_rfl) (by kernel_rfl) (fun _ _ _ h => h) (fun w' _ => by kernel_rfl) ⟨X_312, Q_312, T_312, trivial⟩ ?_
              simp only [Act.put, List.setIfInBounds_toArray, List.set_cons_zero, List.set_cons_succ]
              refine h_take 49 (.pointer (some ⟨T, 0, none⟩)) rfl 186 rfl (by kernel_rfl) (by kernel_rfl) (by kernel_rfl) (by kernel_rfl) (fun _ _ _ h => h) (fun w' _ => by kernel_rfl) ⟨X_312, Q_312, T_312, trivial⟩ ?_
              simp only [Act.put, List.setIfInBounds_toArray, List.set_cons_zero, List.set_cons_succ]
              refine h_take 50 (.slice pl L.length cl) rfl 187 rfl (by kernel_rfl) (by kernel_rfl) (by kernel_rfl) (by kernel_rfl) (fun _ _ _ h => h) (fun w' hw => run_op_load1 _ _ rfl (.slice 55) fR.und rfl ⟨T, 0, none⟩ rfl (.slice pl L.length cl) (hw.2.2.1.cell (i := 0) rfl)) ⟨X_312, Q_312, T_312, trivial⟩ ?_
              simp only [Act.put, List.setIfInBounds_toArray, List.set_cons_zero, List.set_cons_succ]
              refine h_take 51 (.int .i64 (L.length : Int)) rfl 188 rfl (by kernel_rfl) (by kernel_rfl) (by kernel_rfl) (by kernel_rfl) (fun _ _ _ h => h) (fun w' _ => Sl.run_op_lenK _ _ _ rfl fR.und _ _ _ rfl w') ⟨X_312, Q_312, T_312, trivial⟩ ?_
              simp only [Act.put, List.setIfInBounds_toArray, List.set_cons_zero, List.set_cons_succ]
              refine h_one (i := 46) (by kernel_rfl) (o_call rfl 183 rfl (by kernel_rfl) (run_op_call 18 _ _ rfl #[.pointer (some ⟨S, 0, none⟩)] (by simp only [List.map_toArray, List.map_cons, List.map_nil]; rfl) Tryz.func18 (by kernel_rfl) (by kernel_rfl) _) (len_to V_312 rfl) ?_)
              rintro e _ ⟨rfl, rfl⟩
              refine ⟨_, rfl, ⟨X_312, Q_312, T_312, trivial⟩, ?_⟩
              simp only [Act.put, List.setIfInBounds_toArray, List.set_cons_zero, List.set_cons_succ]
              refine h_take 52 (.bool false) rfl 189 rfl (by kernel_rfl) (by kernel_rfl) (by kernel_rfl) (by kernel_rfl) (fun _ _ _ h => h) (fun w' _ => cmp_neq _ _ .i64 (by kernel_rfl) _ _ rfl .i64 (L.length : Int) (L.length : Int) rfl rfl false (decide_eq_true rfl) w') ⟨X_312, Q_312, T_312, trivial⟩ ?_
              simp only [Act.put, List.setIfInBounds_toArray, List.set_cons_zero, List.set_cons_succ]
              refine h_take 53 (.bool false) rfl 190 rfl (by kernel_rfl) (by kernel_rfl) (by kernel_rfl) (by kernel_rfl) (fun _ _ _ h => h) (fun w' _ => by kernel_rfl) ⟨X_312, Q_312, T_312, trivial⟩ ?_
              simp only [Act.put, List.setIfInBounds_toArray, List.set_cons_zero, List.set_cons_succ]
              refine h_take 54 (.bool false) rfl 191 rfl (by kernel_rfl) (by kernel_rfl) (by kernel_rfl) (by kernel_rfl) (fun _ _ _ h => h) (fun w' _ => by kernel_rfl) ⟨X_312, Q_312, T_312, trivial⟩ ?_
              simp only [Act.put, List.setIfInBounds_toArray, List.set_cons_zero, List.set_cons_succ]
              refine h_take 55 (.pointer (some ⟨S, 0, none⟩)) rfl 192 rfl (by kernel_rfl) (by kernel_rfl) (by kernel_rfl) (by kernel_rfl) (fun _ _ _ h => h) (fun w' _ => by kernel_rfl) ⟨X_312, Q_312, T_312, trivial⟩ ?_
              simp only [Act.put, List.setIfInBounds_toArray, List.set_cons_zero, List.set_cons_succ]
              refine h_take 58 (.pointer (some ⟨T, 0, none⟩)) rfl 195 rfl (by kernel_rfl) (by kernel_rfl) (by kernel_rfl) (by kernel_rfl) (fun _ _ _ h => h) (fun w' _ => by kernel_rfl) ⟨X_312, Q_312, T_312, trivial⟩ ?_
              simp only [Act.put, List.setIfInBounds_toArray, List.set_cons_zero, List.set_cons_succ]
              refine h_take 59 (.pointer (some ⟨T, 0, none⟩)) rfl 196 rfl (by kernel_rfl) (by kernel_rfl) (by kernel_rfl) (by kernel_rfl) (fun _ _ _ h => h) (fun w' _ => by kernel_rfl) ⟨X_312, Q_312, T_312, trivial⟩ ?_
              simp only [Act.put, List.setIfInBounds_toArray, List.set_cons_zero, List.set_cons_succ]
              refine h_take 60 (.pointer (some ⟨T, 1, none⟩)) rfl 197 rfl (by kernel_rfl) (by kernel_rfl) (by kernel_rfl) (by kernel_rfl) (fun _ _ _ h => h) (fun w' _ => by kernel_rfl) ⟨X_312, Q_312, T_312, trivial⟩ ?_
              simp only [Act.put, List.setIfInBounds_toArray, List.set_cons_zero, List.set_cons_succ]
              refine h_take 61 (.slice pk L.length ck) rfl 198 rfl (by kernel_rfl) (by kernel_rfl) (by kernel_rfl) (by kernel_rfl) (fun _ _ _ h => h) (fun w' hw => run_op_load1 _ _ rfl (.slice 84) fRK.und rfl ⟨T, 1, none⟩ rfl (.slice pk L.length ck) (hw.2.2.1.cell (i := 1) rfl)) ⟨X_312, Q_312, T_312, trivial⟩ ?_
              simp only [Act.put, List.setIfInBounds_toArray, List.set_cons_zero, List.set_cons_succ]
              refine h_one (i := 56) (by kernel_rfl) (o_call rfl 193 rfl (by kernel_rfl) (run_op_call 21 _ _ rfl #[.pointer (some ⟨S, 0, none⟩)] (by simp only [List.map_toArray, List.map_cons, List.map_nil]; rfl) Tryz.func21 (by kernel_rfl) (by kernel_rfl) _) (pkeys_any V_312 HR100.out) ?_)
              rintro e y313 ⟨⟨kp, kc, rfl, hKO⟩, hB⟩
              have V_314 : PAt y313 F S r pin (L) := V_312.old hB
              have U_314 : RSAt y313 G T r pin (L) := U_312.old hB
              have H_314 : Row y313 H 32 (u8s (digS a.s)) := H_312.old hB
              have X_314 : Row y313 X 44 (scs zs) := X_312.old hB
              have Q_314 : Row y313 Q 32 (u8s (pin.getD zh)) := Q_312.old hB
              have T_314 : Row y313 T 68 (ncs pl L.length cl pk L.length ck r pin) := T_312.old hB
              have OK_314 : Sl.Own kRK y313 0 pk ck (L.map keyN) := OK_312.below hB
              have bel_314 : Chg (fun _ => False) w y313 := bel_312.old hB
              clear V_312 U_312 H_312 X_312 Q_312 T_312 OK_312 bel_312 hB
              replace hKO := hKO.low (Nat.zero_le _)
              refine ⟨_, rfl, ⟨X_314, Q_314, T_314, trivial⟩, ?_⟩
              simp only [Act.put, List.setIfInBounds_toArray, List.set_cons_zero, List.set_cons_succ]
              refine h_one (i := 57) (by kernel_rfl) (o_call rfl 194 rfl (by kernel_rfl) (run_op_call 20 _ _ rfl #[.slice kp L.length kc] (by simp only [List.map_toArray, List.map_cons, List.map_nil]; rfl) Tryz.func20 (by kernel_rfl) (by kernel_rfl) _) (keys_to (hKO.at Od.fK) HL1.out) ?_)
              rintro e y315 ⟨⟨mp, mc, rfl, hMO⟩, hB⟩
              have V_316 : PAt y315 F S r pin (L) := V_314.old hB
              have U_316 : RSAt y315 G T r pin (L) := U_314.old hB
              have H_316 : Row y315 H 32 (u8s (digS a.s)) := H_314.old hB
              have X_316 : Row y315 X 44 (scs zs) := X_314.old hB
              have Q_316 : Row y315 Q 32 (u8s (pin.getD zh)) := Q_314.old hB
              have T_316 : Row y315 T 68 (ncs pl L.length cl pk L.length ck r pin) := T_314.old hB
              have OK_316 : Sl.Own kRK y315 0 pk ck (L.map keyN) := OK_314.below hB
              have K_316 : Sl.Own Od.kK y315 0 kp kc (L.map keyN) := hKO.below hB
              have bel_316 : Chg (fun _ => False) w y315 := bel_314.old hB
              clear V_314 U_314 H_314 X_314 Q_314 T_314 OK_314 hKO bel_314 hB
              replace hMO := hMO.low (Nat.zero_le _)
              refine ⟨_, rfl, ⟨X_316, Q_316, T_316, trivial⟩, ?_⟩
              simp only [Act.put, List.setIfInBounds_toArray, List.set_cons_zero, List.set_cons_succ]
              refine h_one (i := 62) (by kernel_rfl) (o_call rfl 199 rfl (by kernel_rfl) (run_op_call 19 _ _ rfl #[.slice mp L.length mc, .slice pk L.length ck] (by simp only [List.map_toArray, List.map_cons, List.map_nil]; rfl) Tryz.func19 (by kernel_rfl) (by kernel_rfl) _) (same_to (hMO.at fRK) (OK_316.at fRK) HL1.out) ?_)
              rintro e y317 ⟨rfl, hB⟩
              have V_318 : PAt y317 F S r pin (L) := V_316.old hB
              have U_318 : RSAt y317 G T r pin (L) := U_316.old hB
              have H_318 : Row y317 H 32 (u8s (digS a.s)) := H_316.old hB
              have X_318 : Row y317 X 44 (scs zs) := X_316.old hB
              have Q_318 : Row y317 Q 32 (u8s (pin.getD zh)) := Q_316.old hB
              have T_318 : Row y317 T 68 (ncs pl L.length cl pk L.length ck r pin) := T_316.old hB
              have OK_318 : Sl.Own kRK y317 0 pk ck (L.map keyN) := OK_316.below hB
              have K_318 : Sl.Own Od.kK y317 0 kp kc (L.map keyN) := K_316.below hB
              have M_318 : Sl.Own kRK y317 0 mp mc (L.map keyN) := hMO.below hB
              have bel_318 : Chg (fun _ => False) w y317 := bel_316.old hB
              clear V_316 U_316 H_316 X_316 Q_316 T_316 OK_316 K_316 hMO bel_316 hB
              refine ⟨_, rfl, ⟨X_318, Q_318, T_318, trivial⟩, ?_⟩
              simp only [Act.put, List.setIfInBounds_toArray, List.set_cons_zero, List.set_cons_succ]
              refine h_take 63 (.bool false) rfl 200 rfl (by kernel_rfl) (by kernel_rfl) (by kernel_rfl) (by kernel_rfl) (fun _ _ _ h => h) (fun w' _ => by kernel_rfl) ⟨X_318, Q_318, T_318, trivial⟩ ?_
              simp only [Act.put, List.setIfInBounds_toArray, List.set_cons_zero, List.set_cons_succ]
              refine h_take 64 (.bool false) rfl 201 rfl (by kernel_rfl) (by kernel_rfl) (by kernel_rfl) (by kernel_rfl) (fun _ _ _ h => h) (fun w' _ => by kernel_rfl) ⟨X_318, Q_318, T_318, trivial⟩ ?_
              simp only [Act.put, List.setIfInBounds_toArray, List.set_cons_zero, List.set_cons_succ]
              refine wpAnyH_done (by kernel_rfl) ?_ _
              go_wp2_with fail
              go_roundw
              case rel => exact ⟨⟨k + 1, by omega, by go_num⟩, ⟨F, G, L, pin, V_318, U_318, fr, gr, hFG⟩, (bel_318.below (fun k hk => hk.elim) (Nat.le_refl _))⟩
              case measure => simp [intOf]; omega
        · skip
          obtain rfl : k = l.length := by omega
          have HB := Lib.hid bel
          clear bel bel0 hV hU fr gr hFG
          go_wp2_with fail
          go_ret
          exact ⟨rfl, HB.out⟩
    · skip
      go_wp2_with fail
      refine (CR.out _).mono ?_
      rintro e y1 ⟨hN2, hB⟩
      have bel_4 : Chg (fun _ => False) w y1 := bel_3.old hB
      clear bel_3 hB
      rcases hN2 with ⟨h1, h2, _⟩ | ⟨_, rfl⟩
      case inl => exact absurd ⟨h1, h2⟩ hN
      clear hN hbd hsz0
      try simp only [Act.put]
      go_wp2_with fail
      go_ret
      exact ⟨rfl, (bel_4.below (fun k hk => hk.elim) (Nat.le_refl _))⟩
end Go.Proofs.YtnjmocobncncdaaGreatDoor.So
