/-
  The walk of layer 19's statement StoreOrder, out of the contracts: it returns true, and changes nothing that was there. Over this seat's translation.
-/
import Derived.Test.YtnjmocobncncdaaDoorStoOrd
import Derived.Test.YtnjmocobncncdaaDoorStoLKeys
import Derived.Test.YtnjmocobncncdaaDoorStoRefA
import Derived.Deep.DeepCutAuto
namespace Go.Proofs.YtnjmocobncncdaaDoor.So
open Go.ChangeShapes Go.WideShapes Go.ChangeAt Go.RowKit Go.Proofs.YtnjmocobncncdaaDoor.Mem Go.Proofs.YtnjmocobncncdaaDoor.Bt Go.Proofs.YtnjmocobncncdaaDoor.Km
open Go.Proofs.YtnjmocobncncdaaDoor.Ep (H32 zh zh_ok Has h_len szH zH fitH allH one_app num32)
open Go.Proofs.YtnjmocobncncdaaDoor.Sl (Kind At bk)
open Go.Proofs.YtnjmocobncncdaaDoor.Sha (ks)
open Go.Proofs.YtnjmocobncncdaaDoor.Sa (Sta scs digS digS_ok zs zs_ok z_sta sz_sta scs_one fitS allS h_drw h_lngth)
open Go.Proofs.YtnjmocobncncdaaDoor.Od (Ky kcs keyN keyN_ok kcs_len kcs_one kcmp kval zk z_key sz_key fitK allK built_key compare_anyD)
set_option linter.unusedVariables false
set_option linter.unusedSimpArgs false

open Go.Proofs.YtnjmocobncncdaaDoor.Lk (kS fS)
open Go.Proofs.YtnjmocobncncdaaDoor.Od (kRK fRK)
theorem keys_to {L : List Sta} {w : World} {P : Option Addr} {pc : Nat} (hs : Sl.At Od.kK w P (L.map keyN)) (hl : L.length ≤ 1000) :
    Calls Tryd.prog 17 #[.slice P L.length pc] w fun e w' => (∃ p c, e = .returned (.slice p L.length c) ∧ Sl.Own kRK w' 0 p c (L.map keyN)) ∧ Below w.heap.size w w' := by
  have e : (L.map keyN).length = L.length := List.length_map _
  rw [← e]
  refine (keysL_any (L.map keyN) P pc w hs (by rw [e]; exact hl)).mono fun e w' h => ?_
  obtain ⟨⟨p, c, h1, h2⟩, h3⟩ := h
  exact ⟨⟨p, c, h1, h2.low (Nat.zero_le _)⟩, h3⟩
theorem same_two {L M : List Sta} {w : World} {p q : Option Addr} {cp cq : Nat} (hp : Sl.At kRK w p (L.map keyN)) (hq : Sl.At kRK w q (M.map keyN)) (hl : L.length ≤ 1000) :
    Calls Tryd.prog 16 #[.slice p L.length cp, .slice q M.length cq] w fun e w' => (∃ b, e = .returned (.bool b) ∧ (b = true ↔ L.map keyN = M.map keyN)) ∧ Below w.heap.size w w' := by
  have e : (L.map keyN).length = L.length := List.length_map _
  have e2 : (M.map keyN).length = M.length := List.length_map _
  rw [← e, ← e2]
  exact (rssame_any (L.map keyN) (M.map keyN) p q cp cq w hp hq (by rw [e]; omega)).mono fun e w' h => ⟨h.ret, h.bel⟩
structure SwRel (w : World) (F G : Nat → Prop) (S T r : Nat) (p : Option Addr) (c : Nat) (m : List Sta) (wx : World) : Prop where
  a : PAt wx F S r none []
  b : PAt wx G T r none []
  o : Sl.Own kS wx w.heap.size p c m
  bel : Below w.heap.size w wx
structure LoRel (w : World) (S T r : Nat) (l m : List Sta) (MG c : Nat) (i : Value) (wr : World) : Prop where
  ex : ∃ k : Nat, k ≤ l.length ∧ i = .int .i64 (k : Int) ∧ ∃ F G La Lb, PAt wr F S r none La ∧ PAt wr G T r none Lb ∧ From F w.heap.size ∧ From G w.heap.size ∧ Sep F G ∧ ¬ F MG ∧ ¬ G MG ∧ (¬ ClashP l → TopS vK r (l.take k) La ∧ TopS vK r (m.take k) Lb)
  o : Sl.Own kS wr w.heap.size (some ⟨MG, 0, none⟩) c m
  bel : Below w.heap.size w wr
structure FoRel (w : World) (l : List Sta) (i : Value) (wr : World) : Prop where
  ex : ∃ k : Nat, k ≤ l.length ∧ i = .int .i64 (k : Int)
  bel : Below w.heap.size w wr
structure InRel (w : World) (K : List Ky) (y : Ky) (Y : Nat) (i t : Value) (wr : World) : Prop where
  ex : ∃ (j : Nat) (b : Bool), j ≤ K.length ∧ i = .int .i64 (j : Int) ∧ t = .bool b ∧ (b = true ↔ y ∈ K.take j)
  ry : Row wr Y 54 (kcs y)
  bel : Below w.heap.size w wr
theorem take_lastK {l : List Ky} {k : Nat} {a : Ky} (h : l[k]? = some a) : l.take (k + 1) = l.take k ++ [a] := by
  rw [List.take_add_one, h]; rfl
theorem in_more {K : List Ky} {y x : Ky} {j : Nat} (h : y ∈ K.take j) (hx : K[j]? = some x) : y ∈ K.take (j + 1) := by
  rw [take_lastK hx]; exact List.mem_append.2 (.inl h)
theorem in_new {K : List Ky} {y x : Ky} {j : Nat} {v : Bool} (h : ¬ y ∈ K.take j) (hx : K[j]? = some x) (hv : v = true ↔ x = y) : v = true ↔ y ∈ K.take (j + 1) := by
  rw [take_lastK hx, hv]
  refine ⟨fun e => List.mem_append.2 (.inr (List.mem_singleton.2 e.symm)), fun q => ?_⟩
  rcases List.mem_append.1 q with q | q
  · exact absurd q h
  · exact (List.mem_singleton.1 q).symm
set_option maxHeartbeats 4000000 in
set_option maxRecDepth 100000 in
theorem storeOrder_any (room : Int) (l : List Sta) (I J : Int) (P : Option Addr) (pc : Nat) (w : World) (hs : Sl.At kS w P l) (hcap : l.length ≤ pc) (hk : w.rangeAt 0 0 (u32s ks)) :
    Calls Tryd.prog 4 #[.int .i64 room, .slice P l.length pc, .int .i64 I, .int .i64 J] w fun e w' => e = .returned (.bool true) ∧ Below w.heap.size w w' := by
  have hk1 : 0 < w.heap.size := range_lt hk (by simp [u32s, ks])
  have HKW : Hid (∀ w', Below w.heap.size w w' → w'.rangeAt 0 0 (u32s ks)) := Lib.hid fun w' hb => range_block hk (hb.block _ hk1)
  have HS := Lib.hid hs
  have HCAP := Lib.hid hcap
  have CA := Lib.hid (fun w0 h => awake_any w0 h)
  have CN := Lib.hid (fun w0 => snew_any room w0)
  have CO := Lib.hid (fun x kx w0 h => Od.of_any x w0 kx h)
  clear hs hk hk1 hcap
  go_enter Tryd.func4, Tryd.ntmps4
  have bel0 : Chg (fun _ => False) w w := Chg.refl _ _
  go_wp2_with fail
  refine (CA.out _ (HKW.out _ (bel0.below (fun k hk => hk.elim) (Nat.le_refl _)))).mono ?_
  rintro e y1 ⟨rfl, hB⟩
  have bel_2 : Chg (fun _ => False) w y1 := bel0.old hB
  clear bel0 hB
  go_wp2_with fail
  refine (CN.out _).mono ?_
  rintro e y0 ⟨hN, hB⟩
  have hsz0 := bel_2.size
  have bel_3 : Chg (fun _ => False) w y0 := bel_2.old hB
  clear bel_2 hB
  rcases hN with ⟨hr1, hr2, S, F0, rfl, hV, fr0⟩ | ⟨hN, rfl⟩
  · skip
    replace fr0 : From F0 w.heap.size := fun k hk => Nat.le_trans hsz0 (fr0 k hk)
    clear hsz0
    obtain ⟨r, rfl⟩ : ∃ r : Nat, room = (r : Int) := ⟨room.toNat, by omega⟩
    rw [Int.toNat_natCast] at hV
    have HR100 : Hid (r ≤ 100) := Lib.hid (by omega)
    have HR2 : Hid (2 ≤ r) := Lib.hid (by omega)
    go_wp2_with fail
    refine (CN.out _).mono ?_
    rintro e y1 ⟨hN, hB⟩
    have hl0 := hV.lies; have hsz := bel_3.size
    have V_4 : PAt y1 F0 S r none ([]) := hV.old hB
    have bel_4 : Chg (fun _ => False) w y1 := bel_3.old hB
    clear hV bel_3 hB
    rcases hN with ⟨_, _, T, G0, rfl, hU, gr0⟩ | ⟨hN, rfl⟩
    case inr => exact absurd ⟨hr1, hr2⟩ hN
    rw [Int.toNat_natCast] at hU
    have hFG : Sep F0 G0 := fun k h1 h2 => by have := hl0 k h1; have := gr0 k h2; omega
    have gr1 : From G0 w.heap.size := fun k hk => by have := gr0 k hk; omega
    clear hl0 hsz gr0 hr1 hr2 CN CA
    try simp only [Act.put]
    by_cases q0 : 40 < l.length
    · have E0 : Hid (decide (40 < (l.length : Int)) = true) := Lib.hid (decide_eq_true (by omega))
      clear q0
      go_wp2_with (first
        | ((with_reducible refine at_slot 36 ?_); (refine arm_want (.bool false) 36 rfl (by kernel_rfl) (run_op_eqlP' _ _ _ (by kernel_rfl) _ _ rfl (some _) rfl rfl false rfl _) ?_); try simp only [Act.put, List.setIfInBounds_toArray, List.set_cons_zero, List.set_cons_succ])
        | ((with_reducible refine at_slot 39 ?_); (refine arm_want (.bool false) 39 rfl (by kernel_rfl) (run_op_eqlP' _ _ _ (by kernel_rfl) _ _ rfl (some _) rfl rfl false rfl _) ?_); try simp only [Act.put, List.setIfInBounds_toArray, List.set_cons_zero, List.set_cons_succ])
        | ((with_reducible refine at_slot 44 ?_); (refine arm_want (.bool true) 44 rfl (by kernel_rfl) (cmp_gtr _ _ _ _ rfl .i64 ((l.length : Int)) (40) rfl rfl true (E0.out) _) ?_); try simp only [Act.put, List.setIfInBounds_toArray, List.set_cons_zero, List.set_cons_succ]))
      go_ret
      exact ⟨rfl, (bel_4.below (fun k hk => hk.elim) (Nat.le_refl _))⟩
    have E0 : Hid (decide (40 < (l.length : Int)) = false) := Lib.hid (decide_eq_false (by omega))
    have Q0 := Lib.hid q0
    clear q0
    by_cases q1 : I < 0
    · have E1 : Hid (decide (I < 0) = true) := Lib.hid (decide_eq_true (by omega))
      clear q1
      go_wp2_with (first
        | ((with_reducible refine at_slot 36 ?_); (refine arm_want (.bool false) 36 rfl (by kernel_rfl) (run_op_eqlP' _ _ _ (by kernel_rfl) _ _ rfl (some _) rfl rfl false rfl _) ?_); try simp only [Act.put, List.setIfInBounds_toArray, List.set_cons_zero, List.set_cons_succ])
        | ((with_reducible refine at_slot 39 ?_); (refine arm_want (.bool false) 39 rfl (by kernel_rfl) (run_op_eqlP' _ _ _ (by kernel_rfl) _ _ rfl (some _) rfl rfl false rfl _) ?_); try simp only [Act.put, List.setIfInBounds_toArray, List.set_cons_zero, List.set_cons_succ])
        | ((with_reducible refine at_slot 44 ?_); (refine arm_want (.bool false) 44 rfl (by kernel_rfl) (cmp_gtr _ _ _ _ rfl .i64 ((l.length : Int)) (40) rfl rfl false (E0.out) _) ?_); try simp only [Act.put, List.setIfInBounds_toArray, List.set_cons_zero, List.set_cons_succ])
        | ((with_reducible refine at_slot 48 ?_); (refine arm_want (.bool true) 48 rfl (by kernel_rfl) (cmp_lss _ _ _ _ rfl .i64 (I) (0) rfl rfl true (E1.out) _) ?_); try simp only [Act.put, List.setIfInBounds_toArray, List.set_cons_zero, List.set_cons_succ]))
      go_ret
      exact ⟨rfl, (bel_4.below (fun k hk => hk.elim) (Nat.le_refl _))⟩
    have E1 : Hid (decide (I < 0) = false) := Lib.hid (decide_eq_false (by omega))
    have Q1 := Lib.hid q1
    clear q1
    by_cases q2 : (l.length : Int) ≤ I
    · have E2 : Hid (decide ((l.length : Int) ≤ I) = true) := Lib.hid (decide_eq_true (by omega))
      clear q2
      go_wp2_with (first
        | ((with_reducible refine at_slot 36 ?_); (refine arm_want (.bool false) 36 rfl (by kernel_rfl) (run_op_eqlP' _ _ _ (by kernel_rfl) _ _ rfl (some _) rfl rfl false rfl _) ?_); try simp only [Act.put, List.setIfInBounds_toArray, List.set_cons_zero, List.set_cons_succ])
        | ((with_reducible refine at_slot 39 ?_); (refine arm_want (.bool false) 39 rfl (by kernel_rfl) (run_op_eqlP' _ _ _ (by kernel_rfl) _ _ rfl (some _) rfl rfl false rfl _) ?_); try simp only [Act.put, List.setIfInBounds_toArray, List.set_cons_zero, List.set_cons_succ])
        | ((with_reducible refine at_slot 44 ?_); (refine arm_want (.bool false) 44 rfl (by kernel_rfl) (cmp_gtr _ _ _ _ rfl .i64 ((l.length : Int)) (40) rfl rfl false (E0.out) _) ?_); try simp only [Act.put, List.setIfInBounds_toArray, List.set_cons_zero, List.set_cons_succ])
        | ((with_reducible refine at_slot 48 ?_); (refine arm_want (.bool false) 48 rfl (by kernel_rfl) (cmp_lss _ _ _ _ rfl .i64 (I) (0) rfl rfl false (E1.out) _) ?_); try simp only [Act.put, List.setIfInBounds_toArray, List.set_cons_zero, List.set_cons_succ])
        | ((with_reducible refine at_slot 54 ?_); (refine arm_want (.bool true) 54 rfl (by kernel_rfl) (cmp_geq _ _ _ _ rfl .i64 (I) ((l.length : Int)) rfl rfl true (E2.out) _) ?_); try simp only [Act.put, List.setIfInBounds_toArray, List.set_cons_zero, List.set_cons_succ]))
      go_ret
      exact ⟨rfl, (bel_4.below (fun k hk => hk.elim) (Nat.le_refl _))⟩
    have E2 : Hid (decide ((l.length : Int) ≤ I) = false) := Lib.hid (decide_eq_false (by omega))
    have Q2 := Lib.hid q2
    clear q2
    by_cases q3 : J < 0
    · have E3 : Hid (decide (J < 0) = true) := Lib.hid (decide_eq_true (by omega))
      clear q3
      go_wp2_with (first
        | ((with_reducible refine at_slot 36 ?_); (refine arm_want (.bool false) 36 rfl (by kernel_rfl) (run_op_eqlP' _ _ _ (by kernel_rfl) _ _ rfl (some _) rfl rfl false rfl _) ?_); try simp only [Act.put, List.setIfInBounds_toArray, List.set_cons_zero, List.set_cons_succ])
        | ((with_reducible refine at_slot 39 ?_); (refine arm_want (.bool false) 39 rfl (by kernel_rfl) (run_op_eqlP' _ _ _ (by kernel_rfl) _ _ rfl (some _) rfl rfl false rfl _) ?_); try simp only [Act.put, List.setIfInBounds_toArray, List.set_cons_zero, List.set_cons_succ])
        | ((with_reducible refine at_slot 44 ?_); (refine arm_want (.bool false) 44 rfl (by kernel_rfl) (cmp_gtr _ _ _ _ rfl .i64 ((l.length : Int)) (40) rfl rfl false (E0.out) _) ?_); try simp only [Act.put, List.setIfInBounds_toArray, List.set_cons_zero, List.set_cons_succ])
        | ((with_reducible refine at_slot 48 ?_); (refine arm_want (.bool false) 48 rfl (by kernel_rfl) (cmp_lss _ _ _ _ rfl .i64 (I) (0) rfl rfl false (E1.out) _) ?_); try simp only [Act.put, List.setIfInBounds_toArray, List.set_cons_zero, List.set_cons_succ])
        | ((with_reducible refine at_slot 54 ?_); (refine arm_want (.bool false) 54 rfl (by kernel_rfl) (cmp_geq _ _ _ _ rfl .i64 (I) ((l.length : Int)) rfl rfl false (E2.out) _) ?_); try simp only [Act.put, List.setIfInBounds_toArray, List.set_cons_zero, List.set_cons_succ])
        | ((with_reducible refine at_slot 58 ?_); (refine arm_want (.bool true) 58 rfl (by kernel_rfl) (cmp_lss _ _ _ _ rfl .i64 (J) (0) rfl rfl true (E3.out) _) ?_); try simp only [Act.put, List.setIfInBounds_toArray, List.set_cons_zero, List.set_cons_succ]))
      go_ret
      exact ⟨rfl, (bel_4.below (fun k hk => hk.elim) (Nat.le_refl _))⟩
    have E3 : Hid (decide (J < 0) = false) := Lib.hid (decide_eq_false (by omega))
    have Q3 := Lib.hid q3
    clear q3
    by_cases q4 : (l.length : Int) ≤ J
    · have E4 : Hid (decide ((l.length : Int) ≤ J) = true) := Lib.hid (decide_eq_true (by omega))
      clear q4
      go_wp2_with (first
        | ((with_reducible refine at_slot 36 ?_); (refine arm_want (.bool false) 36 rfl (by kernel_rfl) (run_op_eqlP' _ _ _ (by kernel_rfl) _ _ rfl (some _) rfl rfl false rfl _) ?_); try simp only [Act.put, List.setIfInBounds_toArray, List.set_cons_zero, List.set_cons_succ])
        | ((with_reducible refine at_slot 39 ?_); (refine arm_want (.bool false) 39 rfl (by kernel_rfl) (run_op_eqlP' _ _ _ (by kernel_rfl) _ _ rfl (some _) rfl rfl false rfl _) ?_); try simp only [Act.put, List.setIfInBounds_toArray, List.set_cons_zero, List.set_cons_succ])
        | ((with_reducible refine at_slot 44 ?_); (refine arm_want (.bool false) 44 rfl (by kernel_rfl) (cmp_gtr _ _ _ _ rfl .i64 ((l.length : Int)) (40) rfl rfl false (E0.out) _) ?_); try simp only [Act.put, List.setIfInBounds_toArray, List.set_cons_zero, List.set_cons_succ])
        | ((with_reducible refine at_slot 48 ?_); (refine arm_want (.bool false) 48 rfl (by kernel_rfl) (cmp_lss _ _ _ _ rfl .i64 (I) (0) rfl rfl false (E1.out) _) ?_); try simp only [Act.put, List.setIfInBounds_toArray, List.set_cons_zero, List.set_cons_succ])
        | ((with_reducible refine at_slot 54 ?_); (refine arm_want (.bool false) 54 rfl (by kernel_rfl) (cmp_geq _ _ _ _ rfl .i64 (I) ((l.length : Int)) rfl rfl false (E2.out) _) ?_); try simp only [Act.put, List.setIfInBounds_toArray, List.set_cons_zero, List.set_cons_succ])
        | ((with_reducible refine at_slot 58 ?_); (refine arm_want (.bool false) 58 rfl (by kernel_rfl) (cmp_lss _ _ _ _ rfl .i64 (J) (0) rfl rfl false (E3.out) _) ?_); try simp only [Act.put, List.setIfInBounds_toArray, List.set_cons_zero, List.set_cons_succ])
        | ((with_reducible refine at_slot 64 ?_); (refine arm_want (.bool true) 64 rfl (by kernel_rfl) (cmp_geq _ _ _ _ rfl .i64 (J) ((l.length : Int)) rfl rfl true (E4.out) _) ?_); try simp only [Act.put, List.setIfInBounds_toArray, List.set_cons_zero, List.set_cons_succ]))
      go_ret
      exact ⟨rfl, (bel_4.below (fun k hk => hk.elim) (Nat.le_refl _))⟩
    have E4 : Hid (decide ((l.length : Int) ≤ J) = false) := Lib.hid (decide_eq_false (by omega))
    have Q4 := Lib.hid q4
    clear q4
    obtain ⟨i, rfl⟩ := Int.eq_ofNat_of_zero_le (show (0 : Int) ≤ I by have := Q1.out; omega)
    obtain ⟨k, rfl⟩ := Int.eq_ofNat_of_zero_le (show (0 : Int) ≤ J by have := Q3.out; omega)
    have HIL : Hid (i < l.length) := Lib.hid (by have := Q2.out; omega)
    have HKL : Hid (k < l.length) := Lib.hid (by have := Q4.out; omega)
    have HLL : Hid (l.length ≤ 40) := Lib.hid (by have := Q0.out; omega)
    clear Q0 Q1 Q2 Q3 Q4
    obtain ⟨si, hsi⟩ : ∃ s, l[i]? = some s := ⟨_, List.getElem?_eq_getElem HIL.out⟩
    obtain ⟨sk, hsk⟩ : ∃ s, l[k]? = some s := ⟨_, List.getElem?_eq_getElem HKL.out⟩
    have KI := Lib.hid (HS.out.ok si (List.mem_of_getElem? hsi)); have KJ := Lib.hid (HS.out.ok sk (List.mem_of_getElem? hsk))
    have HSI := Lib.hid hsi; have HSK := Lib.hid hsk
    clear hsi hsk
    have HLE : Hid (([] ++ l : List Sta).length = l.length) := Lib.hid (by simp)
    have HAT : Hid (∀ w', Below w.heap.size w w' → Sl.At kS w' P l) := Lib.hid fun w' h => HS.out.below h
    go_upto_region 8 with (first
      | ((with_reducible refine at_slot 36 ?_); (refine arm_want (.bool false) 36 rfl (by kernel_rfl) (run_op_eqlP' _ _ _ (by kernel_rfl) _ _ rfl (some _) rfl rfl false rfl _) ?_); try simp only [Act.put, List.setIfInBounds_toArray, List.set_cons_zero, List.set_cons_succ])
      | ((with_reducible refine at_slot 39 ?_); (refine arm_want (.bool false) 39 rfl (by kernel_rfl) (run_op_eqlP' _ _ _ (by kernel_rfl) _ _ rfl (some _) rfl rfl false rfl _) ?_); try simp only [Act.put, List.setIfInBounds_toArray, List.set_cons_zero, List.set_cons_succ])
      | ((with_reducible refine at_slot 44 ?_); (refine arm_want (.bool false) 44 rfl (by kernel_rfl) (cmp_gtr _ _ _ _ rfl .i64 ((l.length : Int)) (40) rfl rfl false (E0.out) _) ?_); try simp only [Act.put, List.setIfInBounds_toArray, List.set_cons_zero, List.set_cons_succ])
      | ((with_reducible refine at_slot 48 ?_); (refine arm_want (.bool false) 48 rfl (by kernel_rfl) (cmp_lss _ _ _ _ rfl .i64 ((i : Int)) (0) rfl rfl false (E1.out) _) ?_); try simp only [Act.put, List.setIfInBounds_toArray, List.set_cons_zero, List.set_cons_succ])
      | ((with_reducible refine at_slot 54 ?_); (refine arm_want (.bool false) 54 rfl (by kernel_rfl) (cmp_geq _ _ _ _ rfl .i64 ((i : Int)) ((l.length : Int)) rfl rfl false (E2.out) _) ?_); try simp only [Act.put, List.setIfInBounds_toArray, List.set_cons_zero, List.set_cons_succ])
      | ((with_reducible refine at_slot 58 ?_); (refine arm_want (.bool false) 58 rfl (by kernel_rfl) (cmp_lss _ _ _ _ rfl .i64 ((k : Int)) (0) rfl rfl false (E3.out) _) ?_); try simp only [Act.put, List.setIfInBounds_toArray, List.set_cons_zero, List.set_cons_succ])
      | ((with_reducible refine at_slot 64 ?_); (refine arm_want (.bool false) 64 rfl (by kernel_rfl) (cmp_geq _ _ _ _ rfl .i64 ((k : Int)) ((l.length : Int)) rfl rfl false (E4.out) _) ?_); try simp only [Act.put, List.setIfInBounds_toArray, List.set_cons_zero, List.set_cons_succ])
      | ((with_reducible refine at_slot 66 ?_); (refine Sl.arm_lit (K := kS) (o := ⟨some 66, _, _, _, _, _⟩) rfl fS [] Sl.allOk_nil (by simp) _ _ rfl rfl (by simp only [List.map_toArray, List.map_nil]; rfl) ?_); intro M v5 Me hM nM; try simp only [Act.put, List.setIfInBounds_toArray, List.set_cons_zero, List.set_cons_succ])
      | ((with_reducible refine at_slot 68 ?_); (refine Sl.arm_appendQ (K := kS) (o := ⟨some 68, _, _, _, _, _⟩) rfl fS _ _ rfl (y1.heap.size) (some ⟨M, 0, none⟩) _ 0 [] rfl rfl (Sl.Own.row fS Sl.allOk_nil (by have := Me.out; omega) (by simp) hM) _ _ _ l rfl rfl ((HAT.out _ (bel_4.below (fun k hk => hk.elim) (Nat.le_refl _))).below nM.below) (by have := HLL.out; simp only [List.length_nil]; omega) (by have := nM.size; omega) ?_); intro p5 c5 v6 hO hBZ hkp hat; rw [HLE.out]; try simp only [Act.put, List.setIfInBounds_toArray, List.set_cons_zero, List.set_cons_succ]))
    rw [List.nil_append] at hO
    have hB6 : Below y1.heap.size y1 v6 := nM.below.trans hBZ
    obtain ⟨MG, cs5, hp5, lG, rG, hf1, hput⟩ := hO.put fS (i := i) (b := sk) HIL.out KJ.out
    subst hp5
    have nVG : ¬ F0 MG := fun q => by have := V_4.lies MG q; omega
    have nUG : ¬ G0 MG := fun q => by have := hU.lies MG q; omega
    have hAt := hO.at fS
    have HSW := Lib.hid (bel_4.size)
    have LG : Hid (w.heap.size ≤ MG) := Lib.hid (Nat.le_trans bel_4.size lG)
    have HPUT := Lib.hid hput; have HF1 := Lib.hid hf1
    clear hM nM hBZ hkp hat hput hf1 lG hO
    try clear Me
    have V_5 : PAt v6 F0 S r none ([]) := V_4.old hB6
    have U_5 : PAt v6 G0 T r none ([]) := hU.old hB6
    have bel_5 : Chg (fun _ => False) w v6 := bel_4.old hB6
    clear V_4 hU bel_4 hB6
    try simp only [Act.put, List.setIfInBounds_toArray, List.set_cons_zero, List.set_cons_succ]
    go_cut [] (fun wx => SwRel w F0 G0 S T r (some ⟨MG, 0, none⟩) c5 (swL l i k si sk) wx)
    case first => as_aux_lemma =>
      have hil := HIL.out
      have hkl := HKL.out
      refine wp_region_held (S := fun _ => True) (by kernel_rfl) ?_
      change wpAnyH _ _ _ _ _ _ _ _ v6.drew
      have atz : Sl.At kS v6.drew (some ⟨MG, 0, none⟩) l := hAt.below ((Below.refl _ _).drew)
      have rGz : Row v6.drew MG kS.t cs5 := rG
      have hVz : PAt v6.drew F0 S r none [] := V_5.old ((Below.refl _ _).drew)
      have hUz : PAt v6.drew G0 T r none [] := U_5.old ((Below.refl _ _).drew)
      have belz : Below w.heap.size w v6.drew := ((bel_5.below (fun k hk => hk.elim) (Nat.le_refl _))).trans ((Below.refl _ _).drew)
      clear rG hAt V_5 U_5 bel_5
      generalize v6.drew = yz at atz rGz hVz hUz belz ⊢
      refine h_take 0 (.slice (some ⟨MG, 0, none⟩) l.length c5) rfl 69 rfl (by kernel_rfl) (by kernel_rfl) (by kernel_rfl) (by kernel_rfl) (fun _ _ _ h => h) (fun w' _ => by kernel_rfl) trivial ?_
      simp only [Act.put, List.setIfInBounds_toArray, List.set_cons_zero, List.set_cons_succ]
      refine h_take 1 (.int .i64 (i : Int)) rfl 70 rfl (by kernel_rfl) (by kernel_rfl) (by kernel_rfl) (by kernel_rfl) (fun _ _ _ h => h) (fun w' _ => by kernel_rfl) trivial ?_
      simp only [Act.put, List.setIfInBounds_toArray, List.set_cons_zero, List.set_cons_succ]
      refine h_take 2 (.slice (some ⟨MG, 0, none⟩) l.length c5) rfl 71 rfl (by kernel_rfl) (by kernel_rfl) (by kernel_rfl) (by kernel_rfl) (fun _ _ _ h => h) (fun w' _ => by kernel_rfl) trivial ?_
      simp only [Act.put, List.setIfInBounds_toArray, List.set_cons_zero, List.set_cons_succ]
      refine h_take 3 (.int .i64 (k : Int)) rfl 72 rfl (by kernel_rfl) (by kernel_rfl) (by kernel_rfl) (by kernel_rfl) (fun _ _ _ h => h) (fun w' _ => by kernel_rfl) trivial ?_
      simp only [Act.put, List.setIfInBounds_toArray, List.set_cons_zero, List.set_cons_succ]
      refine h_take 4 (.slice (some ⟨MG, 0, none⟩) l.length c5) rfl 73 rfl (by kernel_rfl) (by kernel_rfl) (by kernel_rfl) (by kernel_rfl) (fun _ _ _ h => h) (fun w' _ => by kernel_rfl) trivial ?_
      simp only [Act.put, List.setIfInBounds_toArray, List.set_cons_zero, List.set_cons_succ]
      refine h_take 5 (.int .i64 (k : Int)) rfl 74 rfl (by kernel_rfl) (by kernel_rfl) (by kernel_rfl) (by kernel_rfl) (fun _ _ _ h => h) (fun w' _ => by kernel_rfl) trivial ?_
      simp only [Act.put, List.setIfInBounds_toArray, List.set_cons_zero, List.set_cons_succ]
      refine h_take 6 (.pointer (some ⟨MG, 0 + k * 363, none⟩)) rfl 75 rfl (by kernel_rfl) (by kernel_rfl) (by kernel_rfl) (by kernel_rfl) (fun _ _ _ h => h) (fun w' _ => Sl.run_op_index fS _ _ rfl MG 0 _ _ rfl .i64 _ rfl k rfl hkl w') trivial ?_
      simp only [Act.put, List.setIfInBounds_toArray, List.set_cons_zero, List.set_cons_succ]
      refine h_take 8 (.slice (some ⟨MG, 0, none⟩) l.length c5) rfl 77 rfl (by kernel_rfl) (by kernel_rfl) (by kernel_rfl) (by kernel_rfl) (fun _ _ _ h => h) (fun w' _ => by kernel_rfl) trivial ?_
      simp only [Act.put, List.setIfInBounds_toArray, List.set_cons_zero, List.set_cons_succ]
      refine h_take 9 (.int .i64 (i : Int)) rfl 78 rfl (by kernel_rfl) (by kernel_rfl) (by kernel_rfl) (by kernel_rfl) (fun _ _ _ h => h) (fun w' _ => by kernel_rfl) trivial ?_
      simp only [Act.put, List.setIfInBounds_toArray, List.set_cons_zero, List.set_cons_succ]
      refine h_take 10 (.pointer (some ⟨MG, 0 + i * 363, none⟩)) rfl 79 rfl (by kernel_rfl) (by kernel_rfl) (by kernel_rfl) (by kernel_rfl) (fun _ _ _ h => h) (fun w' _ => Sl.run_op_index fS _ _ rfl MG 0 _ _ rfl .i64 _ rfl i rfl hil w') trivial ?_
      simp only [Act.put, List.setIfInBounds_toArray, List.set_cons_zero, List.set_cons_succ]
      refine h_two (i := 7) (j := 11) (by kernel_rfl) ?_ ?_
      · skip
        refine (o_value (.agg (scs sk).toArray) rfl 76 rfl (by kernel_rfl) (run_op_load _ _ rfl MG (0 + k * 363) rfl (scs sk) (Sl.at_range atz HSK.out) (sz_sta KJ.out)) ?_)
        refine ⟨trivial, ?_⟩
        simp only [Act.put, List.setIfInBounds_toArray, List.set_cons_zero, List.set_cons_succ]
        refine h_one (i := 11) (by kernel_rfl) (o_value (.agg (scs si).toArray) rfl 80 rfl (by kernel_rfl) (run_op_load _ _ rfl MG (0 + i * 363) rfl (scs si) (Sl.at_range atz HSI.out) (sz_sta KI.out)) ?_)
        refine ⟨trivial, ?_⟩
        simp only [Act.put, List.setIfInBounds_toArray, List.set_cons_zero, List.set_cons_succ]
        refine h_take 12 (.pointer (some ⟨MG, 0 + i * 363, none⟩)) rfl 81 rfl (by kernel_rfl) (by kernel_rfl) (by kernel_rfl) (by kernel_rfl) (fun _ _ _ h => h) (fun w' _ => Sl.run_op_index fS _ _ rfl MG 0 _ _ rfl .i64 _ rfl i rfl hil w') trivial ?_
        simp only [Act.put, List.setIfInBounds_toArray, List.set_cons_zero, List.set_cons_succ]
        refine h_one (i := 13) (by kernel_rfl) (o_skip rfl rfl (by kernel_rfl) (run_op_store _ _ _ rfl MG (0 + i * 363) rfl (scs sk) rfl _ _ rGz (by rw [Nat.zero_add]; exact HF1.out) (scs_one _) (sz_sta KJ.out)) ?_)
        have rq := row_setRow rGz (lay cs5 (0 + i * 363) (scs sk))
        have oq := Only.setRow MG yz (lay cs5 (0 + i * 363) (scs sk)).toArray
        generalize yz.setRow MG (lay cs5 (0 + i * 363) (scs sk)).toArray = y3 at rq oq ⊢
        rw [Nat.zero_add] at rq
        have own3 := HPUT.out y3 rq
        have hV3 := hVz.chg (Chg.of_only (F := fun k => k = MG) oq rfl) (fun k hk hf => by subst hk; exact nVG hf)
        have hU3 := hUz.chg (Chg.of_only (F := fun k => k = MG) oq rfl) (fun k hk hf => by subst hk; exact nUG hf)
        have bel3 : Below w.heap.size w y3 := below_only belz oq LG.out belz.size
        obtain ⟨G2, cs6, e6, _, rG6, hf6, hput6⟩ := own3.put fS (i := k) (b := si) (by rw [List.length_set]; exact HKL.out) KI.out
        obtain rfl : MG = G2 := congrArg Addr.block (Option.some.inj e6)
        clear hVz hUz rGz belz atz oq rq own3 e6
        refine ⟨trivial, ?_⟩
        refine h_take 14 (.pointer (some ⟨MG, 0 + k * 363, none⟩)) rfl 82 rfl (by kernel_rfl) (by kernel_rfl) (by kernel_rfl) (by kernel_rfl) (fun _ _ _ h => h) (fun w' _ => Sl.run_op_index fS _ _ rfl MG 0 _ _ rfl .i64 _ rfl k rfl hkl w') trivial ?_
        simp only [Act.put, List.setIfInBounds_toArray, List.set_cons_zero, List.set_cons_succ]
        refine h_one (i := 15) (by kernel_rfl) (o_skip rfl rfl (by kernel_rfl) (run_op_store _ _ _ rfl MG (0 + k * 363) rfl (scs si) rfl _ _ rG6 (by rw [Nat.zero_add]; exact hf6) (scs_one _) (sz_sta KI.out)) ?_)
        have rq := row_setRow rG6 (lay cs6 (0 + k * 363) (scs si))
        have oq := Only.setRow MG y3 (lay cs6 (0 + k * 363) (scs si)).toArray
        generalize y3.setRow MG (lay cs6 (0 + k * 363) (scs si)).toArray = y4 at rq oq ⊢
        rw [Nat.zero_add] at rq
        have own4 := hput6 y4 rq
        have hV4 := hV3.chg (Chg.of_only (F := fun k => k = MG) oq rfl) (fun k hk hf => by subst hk; exact nVG hf)
        have hU4 := hU3.chg (Chg.of_only (F := fun k => k = MG) oq rfl) (fun k hk hf => by subst hk; exact nUG hf)
        have bel4 : Below w.heap.size w y4 := below_only bel3 oq LG.out bel3.size
        clear hV3 hU3 bel3 oq rq rG6 hf6 hput6
        refine ⟨trivial, ?_⟩
        refine wpAnyH_done (by kernel_rfl) ?_ _
        go_wp2_with fail
        go_meet
        exact ⟨hV4, hU4, own4.low HSW.out, bel4⟩
      · skip
        refine (o_value (.agg (scs si).toArray) rfl 80 rfl (by kernel_rfl) (run_op_load _ _ rfl MG (0 + i * 363) rfl (scs si) (Sl.at_range atz HSI.out) (sz_sta KI.out)) ?_)
        refine ⟨trivial, ?_⟩
        simp only [Act.put, List.setIfInBounds_toArray, List.set_cons_zero, List.set_cons_succ]
        refine h_one (i := 7) (by kernel_rfl) (o_value (.agg (scs sk).toArray) rfl 76 rfl (by kernel_rfl) (run_op_load _ _ rfl MG (0 + k * 363) rfl (scs sk) (Sl.at_range atz HSK.out) (sz_sta KJ.out)) ?_)
        refine ⟨trivial, ?_⟩
        simp only [Act.put, List.setIfInBounds_toArray, List.set_cons_zero, List.set_cons_succ]
        refine h_take 12 (.pointer (some ⟨MG, 0 + i * 363, none⟩)) rfl 81 rfl (by kernel_rfl) (by kernel_rfl) (by kernel_rfl) (by kernel_rfl) (fun _ _ _ h => h) (fun w' _ => Sl.run_op_index fS _ _ rfl MG 0 _ _ rfl .i64 _ rfl i rfl hil w') trivial ?_
        simp only [Act.put, List.setIfInBounds_toArray, List.set_cons_zero, List.set_cons_succ]
        refine h_one (i := 13) (by kernel_rfl) (o_skip rfl rfl (by kernel_rfl) (run_op_store _ _ _ rfl MG (0 + i * 363) rfl (scs sk) rfl _ _ rGz (by rw [Nat.zero_add]; exact HF1.out) (scs_one _) (sz_sta KJ.out)) ?_)
        have rq := row_setRow rGz (lay cs5 (0 + i * 363) (scs sk))
        have oq := Only.setRow MG yz (lay cs5 (0 + i * 363) (scs sk)).toArray
        generalize yz.setRow MG (lay cs5 (0 + i * 363) (scs sk)).toArray = y3 at rq oq ⊢
        rw [Nat.zero_add] at rq
        have own3 := HPUT.out y3 rq
        have hV3 := hVz.chg (Chg.of_only (F := fun k => k = MG) oq rfl) (fun k hk hf => by subst hk; exact nVG hf)
        have hU3 := hUz.chg (Chg.of_only (F := fun k => k = MG) oq rfl) (fun k hk hf => by subst hk; exact nUG hf)
        have bel3 : Below w.heap.size w y3 := below_only belz oq LG.out belz.size
        obtain ⟨G2, cs6, e6, _, rG6, hf6, hput6⟩ := own3.put fS (i := k) (b := si) (by rw [List.length_set]; exact HKL.out) KI.out
        obtain rfl : MG = G2 := congrArg Addr.block (Option.some.inj e6)
        clear hVz hUz rGz belz atz oq rq own3 e6
        refine ⟨trivial, ?_⟩
        refine h_take 14 (.pointer (some ⟨MG, 0 + k * 363, none⟩)) rfl 82 rfl (by kernel_rfl) (by kernel_rfl) (by kernel_rfl) (by kernel_rfl) (fun _ _ _ h => h) (fun w' _ => Sl.run_op_index fS _ _ rfl MG 0 _ _ rfl .i64 _ rfl k rfl hkl w') trivial ?_
        simp only [Act.put, List.setIfInBounds_toArray, List.set_cons_zero, List.set_cons_succ]
        refine h_one (i := 15) (by kernel_rfl) (o_skip rfl rfl (by kernel_rfl) (run_op_store _ _ _ rfl MG (0 + k * 363) rfl (scs si) rfl _ _ rG6 (by rw [Nat.zero_add]; exact hf6) (scs_one _) (sz_sta KI.out)) ?_)
        have rq := row_setRow rG6 (lay cs6 (0 + k * 363) (scs si))
        have oq := Only.setRow MG y3 (lay cs6 (0 + k * 363) (scs si)).toArray
        generalize y3.setRow MG (lay cs6 (0 + k * 363) (scs si)).toArray = y4 at rq oq ⊢
        rw [Nat.zero_add] at rq
        have own4 := hput6 y4 rq
        have hV4 := hV3.chg (Chg.of_only (F := fun k => k = MG) oq rfl) (fun k hk hf => by subst hk; exact nVG hf)
        have hU4 := hU3.chg (Chg.of_only (F := fun k => k = MG) oq rfl) (fun k hk hf => by subst hk; exact nUG hf)
        have bel4 : Below w.heap.size w y4 := below_only bel3 oq LG.out bel3.size
        clear hV3 hU3 bel3 oq rq rG6 hf6 hput6
        refine ⟨trivial, ?_⟩
        refine wpAnyH_done (by kernel_rfl) ?_ _
        go_wp2_with fail
        go_meet
        exact ⟨hV4, hU4, own4.low HSW.out, bel4⟩
    case rest =>
    clear hAt rG HPUT HF1 V_5 U_5 bel_5
    obtain ⟨hV, hU, hO, hbl⟩ := hcut
    generalize wc = W5 at hV hU hO hbl ⊢
    have HML : Hid (∀ x, x ∈ swL l i k si sk ↔ x ∈ l) := Lib.hid fun x => swL_mem HSI.out HSK.out
    have HMN : Hid ((swL l i k si sk).length = l.length) := Lib.hid (swL_len l i k si sk)
    generalize swL l i k si sk = m at hO HML HMN
    clear HSI HSK KI KJ
    have bel0 : Chg (fun _ => False) w W5 := Chg.of_below _ hbl
    clear hbl
    go_wp2_with fail
    try simp only [Act.put]
    have h0 : LoRel w S T r l m MG c5 (.int .i64 0) W5 := ⟨⟨0, Nat.zero_le _, rfl, F0, G0, [], [], hV, hU, fr0, gr1, hFG, nVG, nUG, fun _ => ⟨top_nil r, top_nil r⟩⟩, hO, (bel0.below (fun k hk => hk.elim) (Nat.le_refl _))⟩
    clear hV hU hO bel0 fr0 gr1 hFG nVG nUG
    go_loopw [85] (fun i wr => LoRel w S T r l m MG c5 i wr) (fun i _ => l.length - (intOf i).toNat)
    case atStart => exact h0
    case round =>
      clear h0
      obtain ⟨⟨n, hn, rfl, F, G, La, Lb, hV, hU, fr, gr, hFG, nM, gM, htop⟩, hO, bel⟩ := hrel
      have HTOP := Lib.hid htop
      clear htop
      have bel0 : Chg (fun _ => False) w wr := Chg.of_below _ bel
      by_cases hlt : n < l.length
      · skip
        have hn40 : n < 40 := by have := HLL.out; omega
        obtain ⟨x, g, o, hx, kx, hP, hgl, hrx⟩ := (HS.out.below bel).get hlt
        subst hP
        have ik : (n : Int) < (l.length : Int) := by omega
        have KX := Lib.hid kx; have HX := Lib.hid hx
        have hmt : n < m.length := by have := HMN.out; omega
        obtain ⟨y, hy⟩ : ∃ y, m[n]? = some y := ⟨_, List.getElem?_eq_getElem hmt⟩
        have HY := Lib.hid hy
        have KY : Hid (y.Ok) := Lib.hid (HS.out.ok y ((HML.out y).1 (List.mem_of_getElem? hy)))
        have hln : n < l.length := hlt
        have hrx2 : wr.rangeAt g (o + n * 363) (scs x) := hrx
        obtain ⟨q1, hq1⟩ : ∃ q, q = putL r none x La := ⟨_, rfl⟩
        obtain ⟨q2, hq2⟩ : ∃ q, q = putL r none y Lb := ⟨_, rfl⟩
        obtain ⟨Ma, ga⟩ := q1
        obtain ⟨Mb, gb⟩ := q2
        have HQ1 := Lib.hid hq1; have HQ2 := Lib.hid hq2
        have HTOP2 : Hid (¬ ClashP l → TopS vK r (l.take (n + 1)) Ma ∧ TopS vK r (m.take (n + 1)) Mb) := Lib.hid fun nc => by
          have hno := clash_no nc
          have t1 := top_take (by have := HR2.out; omega) hno HS.out.ok (fun y h => h) hx (HTOP.out nc).1
          have t2 := top_take (by have := HR2.out; omega) hno HS.out.ok (fun y h => (HML.out y).1 h) hy (HTOP.out nc).2
          rw [← hq1] at t1
          rw [← hq2] at t2
          exact ⟨t1, t2⟩
        clear hx kx hrx bel hy hq1 hq2
        go_wp2_with (first
          | ((with_reducible refine at_slot 91 ?_); (refine arm_want (.pointer (some ⟨g, o + n * 363, none⟩)) 91 rfl (by kernel_rfl) (Sl.run_op_index fS _ _ rfl g o _ _ rfl .i64 _ rfl n rfl hln _) ?_); try simp only [Act.put, List.setIfInBounds_toArray, List.set_cons_zero, List.set_cons_succ])
          | ((with_reducible refine at_slot 92 ?_); (refine arm_load (o := ⟨some 92, _, _, _, _, _⟩) rfl _ _ rfl g (o + n * 363) rfl (scs x) (hrx2) (sz_sta KX.out) ?_); try simp only [Act.put, List.setIfInBounds_toArray, List.set_cons_zero, List.set_cons_succ]))
        clear hrx2
        refine (put_to x hV KX.out HR100.out (HKW.out _ (bel0.below (fun k hk => hk.elim) (Nat.le_refl _))) HQ1.out.symm rfl rfl).mono ?_
        rintro e yP401 ⟨rfl, ⟨F2, hV2, hG2⟩, hc⟩
        have mM := notF_grew nM hG2 (hO.ge rfl).2
        have fr2 := hG2.from fr bel0.size
        have hFG2 := hFG.grew hG2 hU.lies
        have V_402 : PAt yP401 F2 S r none (Ma) := hV2
        have U_402 : PAt yP401 G T r none (Lb) := hU.chg hc hFG
        have M_402 : Sl.Own kS yP401 w.heap.size (some ⟨MG, 0, none⟩) c5 m := hO.chg hc (fun g hg => by cases hg; exact nM)
        have bel_402 : Chg (fun _ => False) w yP401 := bel0.fresh hc fr
        clear hV hU hO bel0 hc
        clear nM hG2 hFG fr
        have nM := mM; have hFG := hFG2; have fr := fr2
        clear mM hFG2 fr2
        have hry := Sl.at_range (M_402.at fS) HY.out
        go_wp2_with (first
          | ((with_reducible refine at_slot 97 ?_); (refine arm_want (.pointer (some ⟨MG, 0 + n * 363, none⟩)) 97 rfl (by kernel_rfl) (Sl.run_op_index fS _ _ rfl MG 0 _ _ rfl .i64 _ rfl n rfl hln _) ?_); try simp only [Act.put, List.setIfInBounds_toArray, List.set_cons_zero, List.set_cons_succ])
          | ((with_reducible refine at_slot 98 ?_); (refine arm_load (o := ⟨some 98, _, _, _, _, _⟩) rfl _ _ rfl MG (0 + n * 363) rfl (scs y) (hry) (sz_sta KY.out) ?_); try simp only [Act.put, List.setIfInBounds_toArray, List.set_cons_zero, List.set_cons_succ]))
        clear hry
        refine (put_to y U_402 KY.out HR100.out (HKW.out _ (bel_402.below (fun k hk => hk.elim) (Nat.le_refl _))) HQ2.out.symm rfl rfl).mono ?_
        rintro e yP403 ⟨rfl, ⟨G2, hV2, hG2⟩, hc⟩
        have mM := notF_grew gM hG2 (M_402.ge rfl).2
        have gr2 := hG2.from gr bel_402.size
        have hFG2 := (hFG.symm.grew hG2 V_402.lies).symm
        have V_404 : PAt yP403 F2 S r none (Ma) := V_402.chg hc hFG.symm
        have U_404 : PAt yP403 G2 T r none (Mb) := hV2
        have M_404 : Sl.Own kS yP403 w.heap.size (some ⟨MG, 0, none⟩) c5 m := M_402.chg hc (fun g hg => by cases hg; exact gM)
        have bel_404 : Chg (fun _ => False) w yP403 := bel_402.fresh hc gr
        clear V_402 U_402 M_402 bel_402 hc
        clear gM hG2 hFG gr
        have gM := mM; have hFG := hFG2; have gr := gr2
        clear mM hFG2 gr2
        go_wp2_with fail
        go_roundw
        case rel => exact ⟨⟨n + 1, by omega, by go_num, F2, G2, Ma, Mb, V_404, U_404, fr, gr, hFG, nM, gM, HTOP2.out⟩, M_404, (bel_404.below (fun k hk => hk.elim) (Nat.le_refl _))⟩
        case measure => simp [intOf]; omega
      · skip
        obtain rfl : n = l.length := by omega
        have HEND : Hid (¬ ClashP l → La = Lb ∧ La ≠ [] ∧ TopS vK r l La) := Lib.hid fun nc => by
          have t1 := (HTOP.out nc).1
          have t2 := (HTOP.out nc).2
          rw [List.take_length] at t1
          rw [← HMN.out, List.take_length] at t2
          have h1 : l[0]? = some (l[0]'(by have := HIL.out; omega)) := List.getElem?_eq_getElem _
          exact ⟨top_same t1 t2 fun x => (HML.out x).symm, top_ne (by have := HR2.out; omega) t1 (List.mem_of_getElem? h1), t1⟩
        clear HTOP hlt hn nM gM hO bel
        have CC : Hid (∀ w', Below w.heap.size w w' → Calls Tryd.prog 18 #[.slice P l.length pc] w' (ClPost w' l)) := Lib.hid fun w' hb => clash_any l P pc w' (HS.out.below hb) ⟨HCAP.out, by have := HLL.out; omega⟩ (HKW.out _ hb)
        have HLA : Hid (La.length ≤ 1000) := Lib.hid (by have := hV.ok.len; have := HR100.out; omega)
        have HLB : Hid (Lb.length ≤ 1000) := Lib.hid (by have := hU.ok.len; have := HR100.out; omega)
        have HKK := Lib.hid (fun y hy => keyN_ok (hV.states y hy))
        go_wp2_with fail
        refine (pkeys_any hV HR100.out).mono ?_
        rintro e y401 ⟨⟨kp, kc, rfl, hKO⟩, hB⟩
        have hKO := hKO.low (Nat.zero_le _)
        have V_402 : PAt y401 F S r none (La) := hV.old hB
        have U_402 : PAt y401 G T r none (Lb) := hU.old hB
        have bel_402 : Chg (fun _ => False) w y401 := bel0.old hB
        clear hV hU bel0 hB
        go_wp2_with fail
        refine (pkeys_any U_402 HR100.out).mono ?_
        rintro e y403 ⟨⟨jp, jc, rfl, hJO⟩, hB⟩
        have hJO := hJO.low (Nat.zero_le _)
        have V_404 : PAt y403 F S r none (La) := V_402.old hB
        have U_404 : PAt y403 G T r none (Lb) := U_402.old hB
        have K_404 : Sl.Own Od.kK y403 0 kp kc (La.map keyN) := hKO.below hB
        have bel_404 : Chg (fun _ => False) w y403 := bel_402.old hB
        clear V_402 U_402 hKO bel_402 hB
        clear fr gr hFG
        clear V_404
        clear U_404
        go_wp2_with fail
        refine (keys_to (K_404.at Od.fK) HLA.out).mono ?_
        rintro e y405 ⟨⟨ap, ac, rfl, hAO⟩, hB⟩
        have K_406 : Sl.Own Od.kK y405 0 kp kc (La.map keyN) := K_404.below hB
        have J_406 : Sl.Own Od.kK y405 0 jp jc (Lb.map keyN) := hJO.below hB
        have bel_406 : Chg (fun _ => False) w y405 := bel_404.old hB
        clear K_404 hJO bel_404 hB
        go_wp2_with fail
        refine (keys_to (J_406.at Od.fK) HLB.out).mono ?_
        rintro e y407 ⟨⟨bp, bc, rfl, hBO⟩, hB⟩
        have K_408 : Sl.Own Od.kK y407 0 kp kc (La.map keyN) := K_406.below hB
        have J_408 : Sl.Own Od.kK y407 0 jp jc (Lb.map keyN) := J_406.below hB
        have A_408 : Sl.Own kRK y407 0 ap ac (La.map keyN) := hAO.below hB
        have bel_408 : Chg (fun _ => False) w y407 := bel_406.old hB
        clear K_406 J_406 hAO bel_406 hB
        go_wp2_with fail
        refine (same_two (A_408.at fRK) (hBO.at fRK) HLA.out).mono ?_
        rintro e y409 ⟨⟨b, rfl, hb⟩, hB⟩
        have K_410 : Sl.Own Od.kK y409 0 kp kc (La.map keyN) := K_408.below hB
        have J_410 : Sl.Own Od.kK y409 0 jp jc (Lb.map keyN) := J_408.below hB
        have A_410 : Sl.Own kRK y409 0 ap ac (La.map keyN) := A_408.below hB
        have B_410 : Sl.Own kRK y409 0 bp bc (Lb.map keyN) := hBO.below hB
        have bel_410 : Chg (fun _ => False) w y409 := bel_408.old hB
        clear K_408 J_408 A_408 hBO bel_408 hB
        have HBI := Lib.hid hb
        clear hb
        clear A_410
        clear B_410
        clear J_410
        cases b with
        | false =>
          go_wp2_with fail
          have HCL : Hid (ClashP l) := Lib.hid (Classical.byContradiction fun nc => absurd (HBI.out.2 (by rw [(HEND.out nc).1])) Bool.false_ne_true)
          refine (CC.out _ (bel_410.below (fun k hk => hk.elim) (Nat.le_refl _))).mono ?_
          rintro e y411 ⟨⟨b9, rfl, h9⟩, hB⟩
          have K_412 : Sl.Own Od.kK y411 0 kp kc (La.map keyN) := K_410.below hB
          have bel_412 : Chg (fun _ => False) w y411 := bel_410.old hB
          clear K_410 bel_410 hB
          obtain rfl : b9 = true := h9.2 HCL.out
          clear h9
          go_wp2_with fail
          go_ret
          exact ⟨rfl, (bel_412.below (fun k hk => hk.elim) (Nat.le_refl _))⟩
        | true =>
          by_cases hla : La.length = 0
          · skip
            have d0 : decide ((La.length : Int) = 0) = true := decide_eq_true (by omega)
            have HLA0 := Lib.hid hla
            clear hla
            go_wp2_with (first
              | ((with_reducible refine at_slot 114 ?_); (refine arm_want (.bool true) 114 rfl (by kernel_rfl) (cmp_eql _ _ .i64 (by kernel_rfl) _ _ rfl .i64 (La.length : Int) (0 : Int) rfl rfl true d0 _) ?_); try simp only [Act.put, List.setIfInBounds_toArray, List.set_cons_zero, List.set_cons_succ]))
            clear d0
            have HCL : Hid (ClashP l) := Lib.hid (Classical.byContradiction fun nc => (HEND.out nc).2.1 (List.length_eq_zero_iff.1 HLA0.out))
            refine (CC.out _ (bel_410.below (fun k hk => hk.elim) (Nat.le_refl _))).mono ?_
            rintro e y411 ⟨⟨b9, rfl, h9⟩, hB⟩
            have K_412 : Sl.Own Od.kK y411 0 kp kc (La.map keyN) := K_410.below hB
            have bel_412 : Chg (fun _ => False) w y411 := bel_410.old hB
            clear K_410 bel_410 hB
            obtain rfl : b9 = true := h9.2 HCL.out
            clear h9
            go_wp2_with fail
            go_ret
            exact ⟨rfl, (bel_412.below (fun k hk => hk.elim) (Nat.le_refl _))⟩
          · skip
            have d0 : decide ((La.length : Int) = 0) = false := decide_eq_false (by omega)
            have HLA0 := Lib.hid hla
            clear hla
            go_wp2_with (first
              | ((with_reducible refine at_slot 114 ?_); (refine arm_want (.bool false) 114 rfl (by kernel_rfl) (cmp_eql _ _ .i64 (by kernel_rfl) _ _ rfl .i64 (La.length : Int) (0 : Int) rfl rfl false d0 _) ?_); try simp only [Act.put, List.setIfInBounds_toArray, List.set_cons_zero, List.set_cons_succ]))
            clear d0
            have HA := Lib.hid (K_410.at Od.fK)
            have HBL := Lib.hid (bel_410.below (fun k hk => hk.elim) (Nat.le_refl _))
            clear K_410 bel_410 HBI
            generalize y409 = W6 at HA HBL ⊢
            try simp only [Act.put]
            have h0 : FoRel W6 l (.int .i64 0) W6 := ⟨⟨0, Nat.zero_le _, rfl⟩, Below.refl _ _⟩
            go_loopw [120] (fun i wr => FoRel W6 l i wr) (fun i _ => l.length - (intOf i).toNat)
            case atStart => exact h0
            case round =>
              clear h0
              obtain ⟨⟨n, hn, rfl⟩, bel⟩ := hrel
              have bel0 : Chg (fun _ => False) W6 wr := Chg.of_below _ bel
              by_cases hlt : n < l.length
              · skip
                have hn40 : n < 40 := by have := HLL.out; omega
                have hbl := HBL.out.trans (bel.mono HBL.out.size)
                obtain ⟨x, g, o, hx, kx, hP, hgl, hrx⟩ := (HS.out.below hbl).get hlt
                subst hP
                have ik : (n : Int) < (l.length : Int) := by omega
                have KX := Lib.hid kx; have HX : Hid (x ∈ l) := Lib.hid (List.mem_of_getElem? hx); have KK := Lib.hid (keyN_ok kx)
                have hrx2 : wr.rangeAt g (o + n * 363) (scs x) := hrx
                have HBW : Hid (Below w.heap.size w W6) := HBL
                clear hx kx hrx bel hgl hbl
                go_wp2_with (first
                  | ((with_reducible refine at_slot 122 ?_); (refine arm_want (.pointer (some ⟨g, o + n * 363, none⟩)) 122 rfl (by kernel_rfl) (Sl.run_op_index fS _ _ rfl g o _ _ rfl .i64 _ rfl n rfl hlt _) ?_); try simp only [Act.put, List.setIfInBounds_toArray, List.set_cons_zero, List.set_cons_succ])
                  | ((with_reducible refine at_slot 123 ?_); (refine arm_load (o := ⟨some 123, _, _, _, _, _⟩) rfl _ _ rfl g (o + n * 363) rfl (scs x) (hrx2) (sz_sta KX.out) ?_); try simp only [Act.put, List.setIfInBounds_toArray, List.set_cons_zero, List.set_cons_succ])
                  | ((with_reducible refine at_slot 18 ?_); (refine arm_alloc (o := ⟨some 18, _, _, _, _, _⟩) rfl _ rfl (scs zs) z_sta ?_); intro D v601a De hDa nD; try simp only [Act.put, List.setIfInBounds_toArray, List.set_cons_zero, List.set_cons_succ])
                  | ((with_reducible refine arm_store (o := ⟨none, _, _, _, _, _⟩) rfl _ _ _ rfl D 0 rfl (scs x) rfl _ _ hDa (fitS KX.out) (scs_one _) (sz_sta KX.out) ?_); intro v601 hDb oD sD; try simp only [Act.put, List.setIfInBounds_toArray, List.set_cons_zero, List.set_cons_succ])
                  | ((with_reducible refine at_slot 124 ?_); (refine arm_load (o := ⟨some 124, _, _, _, _, _⟩) rfl _ _ rfl D 0 rfl (scs x) ((Has.refl _).range (hDb.congr (allS KX.out))) (sz_sta KX.out) ?_); try simp only [Act.put, List.setIfInBounds_toArray, List.set_cons_zero, List.set_cons_succ]))
                have lD : wr.heap.size ≤ D := by have := De.out; omega
                have bD : Below wr.heap.size wr v601 := below_only nD.below oD lD nD.below.size
                have rrD : Row v601 D 41 (scs x) := hDb.congr (allS KX.out)
                have geD : W6.heap.size ≤ D := Nat.le_trans bel0.size lD
                have lDx := lD
                clear hDa hDb nD oD sD De lD
                have bel_602 : Chg (fun _ => False) W6 v601 := bel0.old bD
                clear bel0 bD
                clear hrx2
                refine (CO.out x KX.out _ (HKW.out _ (HBL.out.trans ((bel_602.below (fun k hk => hk.elim) (Nat.le_refl _)).mono HBL.out.size)))).mono ?_
                rintro e y603 ⟨rfl, hB⟩
                have D_604 : Row y603 D 41 (scs x) := rrD.old hB
                have bel_604 : Chg (fun _ => False) W6 y603 := bel_602.old hB
                clear rrD bel_602 hB
                clear D_604
                go_wp2_with (first
                  | ((with_reducible refine at_slot 19 ?_); (refine arm_alloc (o := ⟨some 19, _, _, _, _, _⟩) rfl _ rfl (kcs zk) z_key ?_); intro Y v605a Ye hYa nY; try simp only [Act.put, List.setIfInBounds_toArray, List.set_cons_zero, List.set_cons_succ])
                  | ((with_reducible refine arm_store (o := ⟨none, _, _, _, _, _⟩) rfl _ _ _ rfl Y 0 rfl (kcs (keyN x)) rfl _ _ hYa (fitK KK.out) (kcs_one _) (sz_key KK.out) ?_); intro v605 hYb oY sY; try simp only [Act.put, List.setIfInBounds_toArray, List.set_cons_zero, List.set_cons_succ]; refine fpause ?_; try simp only [Act.put, List.setIfInBounds_toArray, List.set_cons_zero, List.set_cons_succ]))
                have lY : y603.heap.size ≤ Y := by have := Ye.out; omega
                have bY : Below y603.heap.size y603 v605 := below_only nY.below oY lY nY.below.size
                have rrY : Row v605 Y 54 (kcs (keyN x)) := hYb.congr (allK KK.out)
                have geY : W6.heap.size ≤ Y := Nat.le_trans bel_604.size lY
                have lYx := lY
                clear hYa hYb nY oY sY Ye lY
                have bel_606 : Chg (fun _ => False) W6 v605 := bel_604.old bY
                clear bel_604 bY
                refine fgo ?_
                go_wp2_with fail
                try simp only [Act.put]
                have h1 : InRel W6 (La.map keyN) (keyN x) Y (.int .i64 0) (.bool false) v605 := ⟨⟨0, false, Nat.zero_le _, rfl, rfl, ⟨fun h => absurd h Bool.false_ne_true, fun h => (nomatch h)⟩⟩, rrY, (bel_606.below (fun k hk => hk.elim) (Nat.le_refl _))⟩
                have HGY : Hid (W6.heap.size ≤ Y) := Lib.hid geY
                have HNL : Hid (n < l.length) := Lib.hid hlt
                clear rrY bel_606
                try clear geY
                try clear lYx
                try clear geD
                try clear lDx
                go_loopw [128, 20] (fun j t wx => InRel W6 (La.map keyN) (keyN x) Y j t wx) (fun j _ _ => La.length - (intOf j).toNat)
                case atStart => exact h1
                case round =>
                  clear h1
                  obtain ⟨⟨j, b, hj, rfl, rfl, hbi⟩, hY, bel⟩ := hrel
                  have hj2 : j ≤ La.length := by rw [List.length_map] at hj; exact hj
                  clear hj
                  have HBI := Lib.hid hbi
                  clear hbi
                  have bel0 : Chg (fun _ => False) W6 wr := Chg.of_below _ bel
                  by_cases hjl : j < La.length
                  · skip
                    have j1000 : j < 1000 := by have := HLA.out; omega
                    have jk : (j : Int) < (La.length : Int) := by omega
                    obtain ⟨y, g2, o2, hy, ky, hP, hgl, hry⟩ := (HA.out.below bel).get (k := j) (by rw [List.length_map]; exact hjl)
                    subst hP
                    have KYY := Lib.hid ky; have HYY := Lib.hid hy
                    have hry2 : wr.rangeAt g2 (o2 + j * 65) (kcs y) := hry
                    clear hy ky hry bel hgl
                    go_wp2_with (first
                      | ((with_reducible refine at_slot 130 ?_); (refine arm_want (.pointer (some ⟨g2, o2 + j * 65, none⟩)) 130 rfl (by kernel_rfl) (Sl.run_op_index Od.fK _ _ rfl g2 o2 _ _ rfl .i64 _ rfl j rfl hjl _) ?_); try simp only [Act.put, List.setIfInBounds_toArray, List.set_cons_zero, List.set_cons_succ])
                      | ((with_reducible refine at_slot 131 ?_); (refine arm_load (o := ⟨some 131, _, _, _, _, _⟩) rfl _ _ rfl g2 (o2 + j * 65) rfl (kcs y) (hry2) (sz_key KYY.out) ?_); try simp only [Act.put, List.setIfInBounds_toArray, List.set_cons_zero, List.set_cons_succ])
                      | ((with_reducible refine at_slot 22 ?_); (refine arm_alloc (o := ⟨some 22, _, _, _, _, _⟩) rfl _ rfl (kcs zk) z_key ?_); intro Z v701a Ze hZa nZ; try simp only [Act.put, List.setIfInBounds_toArray, List.set_cons_zero, List.set_cons_succ])
                      | ((with_reducible refine arm_store (o := ⟨none, _, _, _, _, _⟩) rfl _ _ _ rfl Z 0 rfl (kcs y) rfl _ _ hZa (fitK KYY.out) (kcs_one _) (sz_key KYY.out) ?_); intro v701 hZb oZ sZ; try simp only [Act.put, List.setIfInBounds_toArray, List.set_cons_zero, List.set_cons_succ]; refine fpause ?_; try simp only [Act.put, List.setIfInBounds_toArray, List.set_cons_zero, List.set_cons_succ]))
                    have lZ : wr.heap.size ≤ Z := by have := Ze.out; omega
                    have bZ : Below wr.heap.size wr v701 := below_only nZ.below oZ lZ nZ.below.size
                    have rrZ : Row v701 Z 54 (kcs y) := hZb.congr (allK KYY.out)
                    have geZ : W6.heap.size ≤ Z := Nat.le_trans bel0.size lZ
                    have lZx := lZ
                    clear hZa hZb nZ oZ sZ Ze lZ
                    have Y_702 : Row v701 Y 54 (kcs (keyN x)) := hY.old bZ
                    have bel_702 : Chg (fun _ => False) W6 v701 := bel0.old bZ
                    clear hY bel0 bZ
                    refine fgo ?_
                    clear hry2
                    cases b with
                    | true =>
                      go_wp2_with fail
                      go_roundw
                      case rel => exact ⟨⟨j + 1, true, by rw [List.length_map]; omega, by go_num, rfl, iff_of_true rfl (in_more (HBI.out.1 rfl) HYY.out)⟩, Y_702, (bel_702.below (fun k hk => hk.elim) (Nat.le_refl _))⟩
                      case measure => simp [intOf]; omega
                    | false =>
                      obtain ⟨v, hv⟩ : ∃ v : Bool, (v = true ↔ y = keyN x) := by
                        by_cases h : y = keyN x
                        · exact ⟨true, iff_of_true rfl h⟩
                        · exact ⟨false, iff_of_false Bool.false_ne_true h⟩
                      have HVI := Lib.hid hv
                      clear hv
                      go_wp2_with (first
                        | ((with_reducible refine at_slot 134 ?_); (refine arm_want (.agg (kcs y).toArray) 134 rfl (by kernel_rfl) (run_op_load _ _ rfl Z 0 rfl (kcs y) ((Has.refl _).range rrZ) (sz_key KYY.out)) ?_); try simp only [Act.put, List.setIfInBounds_toArray, List.set_cons_zero, List.set_cons_succ])
                        | ((with_reducible refine at_slot 135 ?_); (refine arm_want (.agg (kcs (keyN x)).toArray) 135 rfl (by kernel_rfl) (run_op_load _ _ rfl Y 0 rfl (kcs (keyN x)) ((Has.refl _).range Y_702) (sz_key KK.out)) ?_); try simp only [Act.put, List.setIfInBounds_toArray, List.set_cons_zero, List.set_cons_succ])
                        | ((with_reducible refine at_slot 136 ?_); (refine arm_want (.bool v) 136 rfl (by kernel_rfl) (Od.run_op_eqlK KYY.out KK.out _ _ _ rfl rfl rfl v HVI.out _) ?_); try simp only [Act.put, List.setIfInBounds_toArray, List.set_cons_zero, List.set_cons_succ]))
                      go_roundw
                      case rel => exact ⟨⟨j + 1, v, by rw [List.length_map]; omega, by go_num, rfl, in_new (fun h => absurd (HBI.out.2 h) Bool.false_ne_true) HYY.out HVI.out⟩, Y_702, (bel_702.below (fun k hk => hk.elim) (Nat.le_refl _))⟩
                      case measure => simp [intOf]; omega
                  · skip
                    obtain rfl : j = La.length := by omega
                    have HIN : Hid (b = true ↔ keyN x ∈ La.map keyN) := Lib.hid (by have := HBI.out; rwa [List.take_of_length_le (by rw [List.length_map]; exact Nat.le_refl _)] at this)
                    clear HBI bel hjl hj2
                    go_wp2_with fail
                    cases b with
                    | true =>
                      refine wp_region_held (S := fun w' => True) (by kernel_rfl) ?_
                      change wpAnyH _ _ _ _ _ _ _ _ wr.drew
                      have hd701 : Below wr.heap.size wr wr.drew := (Below.refl _ _).drew
                      have Y_702 : Row wr.drew Y 54 (kcs (keyN x)) := hY.old hd701
                      have bel_702 : Chg (fun _ => False) W6 wr.drew := bel0.old hd701
                      clear hY bel0 hd701
                      generalize wr.drew = yz701 at Y_702 bel_702 ⊢
                      refine h_take 0 (.bool true) rfl 139 rfl (by kernel_rfl) (by kernel_rfl) (by kernel_rfl) (by kernel_rfl) (fun _ _ _ h => h) (fun w' _ => by kernel_rfl) trivial ?_
                      simp only [Act.put, List.setIfInBounds_toArray, List.set_cons_zero, List.set_cons_succ]
                      refine h_take 1 (.bool false) rfl 140 rfl (by kernel_rfl) (by kernel_rfl) (by kernel_rfl) (by kernel_rfl) (fun _ _ _ h => h) (fun w' _ => by kernel_rfl) trivial ?_
                      simp only [Act.put, List.setIfInBounds_toArray, List.set_cons_zero, List.set_cons_succ]
                      refine h_take 2 (.bool false) rfl 141 rfl (by kernel_rfl) (by kernel_rfl) (by kernel_rfl) (by kernel_rfl) (fun _ _ _ h => h) (fun w' _ => by kernel_rfl) trivial ?_
                      simp only [Act.put, List.setIfInBounds_toArray, List.set_cons_zero, List.set_cons_succ]
                      refine h_pass 3 rfl 142 rfl (by kernel_rfl) (by kernel_rfl) (by kernel_rfl) (by kernel_rfl) (fun _ _ _ h => h) trivial ?_
                      simp only [Act.put, List.setIfInBounds_toArray, List.set_cons_zero, List.set_cons_succ]
                      refine h_pass 4 rfl 143 rfl (by kernel_rfl) (by kernel_rfl) (by kernel_rfl) (by kernel_rfl) (fun _ _ _ h => h) trivial ?_
                      simp only [Act.put, List.setIfInBounds_toArray, List.set_cons_zero, List.set_cons_succ]
                      refine h_pass 5 rfl 144 rfl (by kernel_rfl) (by kernel_rfl) (by kernel_rfl) (by kernel_rfl) (fun _ _ _ h => h) trivial ?_
                      simp only [Act.put, List.setIfInBounds_toArray, List.set_cons_zero, List.set_cons_succ]
                      refine h_pass 6 rfl 145 rfl (by kernel_rfl) (by kernel_rfl) (by kernel_rfl) (by kernel_rfl) (fun _ _ _ h => h) trivial ?_
                      simp only [Act.put, List.setIfInBounds_toArray, List.set_cons_zero, List.set_cons_succ]
                      refine h_pass 7 rfl 146 rfl (by kernel_rfl) (by kernel_rfl) (by kernel_rfl) (by kernel_rfl) (fun _ _ _ h => h) trivial ?_
                      simp only [Act.put, List.setIfInBounds_toArray, List.set_cons_zero, List.set_cons_succ]
                      refine h_pass 8 rfl 147 rfl (by kernel_rfl) (by kernel_rfl) (by kernel_rfl) (by kernel_rfl) (fun _ _ _ h => h) trivial ?_
                      simp only [Act.put, List.setIfInBounds_toArray, List.set_cons_zero, List.set_cons_succ]
                      refine h_pass 9 rfl 148 rfl (by kernel_rfl) (by kernel_rfl) (by kernel_rfl) (by kernel_rfl) (fun _ _ _ h => h) trivial ?_
                      simp only [Act.put, List.setIfInBounds_toArray, List.set_cons_zero, List.set_cons_succ]
                      refine h_pass 10 rfl 149 rfl (by kernel_rfl) (by kernel_rfl) (by kernel_rfl) (by kernel_rfl) (fun _ _ _ h => h) trivial ?_
                      simp only [Act.put, List.setIfInBounds_toArray, List.set_cons_zero, List.set_cons_succ]
                      refine h_pass 11 rfl 150 rfl (by kernel_rfl) (by kernel_rfl) (by kernel_rfl) (by kernel_rfl) (fun _ _ _ h => h) trivial ?_
                      simp only [Act.put, List.setIfInBounds_toArray, List.set_cons_zero, List.set_cons_succ]
                      refine h_pass 12 rfl 151 rfl (by kernel_rfl) (by kernel_rfl) (by kernel_rfl) (by kernel_rfl) (fun _ _ _ h => h) trivial ?_
                      simp only [Act.put, List.setIfInBounds_toArray, List.set_cons_zero, List.set_cons_succ]
                      refine h_pass 13 rfl 152 rfl (by kernel_rfl) (by kernel_rfl) (by kernel_rfl) (by kernel_rfl) (fun _ _ _ h => h) trivial ?_
                      simp only [Act.put, List.setIfInBounds_toArray, List.set_cons_zero, List.set_cons_succ]
                      refine h_pass 14 rfl 153 rfl (by kernel_rfl) (by kernel_rfl) (by kernel_rfl) (by kernel_rfl) (fun _ _ _ h => h) trivial ?_
                      simp only [Act.put, List.setIfInBounds_toArray, List.set_cons_zero, List.set_cons_succ]
                      refine h_take 15 (.bool false) rfl 154 rfl (by kernel_rfl) (by kernel_rfl) (by kernel_rfl) (by kernel_rfl) (fun _ _ _ h => h) (fun w' _ => by kernel_rfl) trivial ?_
                      simp only [Act.put, List.setIfInBounds_toArray, List.set_cons_zero, List.set_cons_succ]
                      refine wpAnyH_done (by kernel_rfl) ?_ _
                      go_wp2_with fail
                      go_roundw
                      case rel => exact ⟨⟨n + 1, by have := HNL.out; omega, by go_num⟩, (bel_702.below (fun k hk => hk.elim) (Nat.le_refl _))⟩
                      case measure => simp [intOf]; have := HNL.out; omega
                    | false =>
                      have HNI : Hid (keyN x ∉ La.map keyN) := Lib.hid (fun h => absurd (HIN.out.2 h) Bool.false_ne_true)
                      clear HIN
                      have HOUT : Hid (¬ ClashP l → La.length = r ∧ ∀ y ∈ La, kcmp (keyN x) (keyN y) < 0) := Lib.hid fun nc => top_out (clash_no nc) HS.out.ok (HEND.out nc).2.2 HX.out HNI.out
                      by_cases hlr : La.length < r
                      · skip
                        have HLR := Lib.hid hlr; have dl : Hid (decide ((La.length : Int) < (r : Int)) = true) := Lib.hid (decide_eq_true (by omega))
                        clear hlr
                        refine wp_region_held (S := fun w' => True) (by kernel_rfl) ?_
                        change wpAnyH _ _ _ _ _ _ _ _ wr.drew
                        have hd701 : Below wr.heap.size wr wr.drew := (Below.refl _ _).drew
                        have Y_702 : Row wr.drew Y 54 (kcs (keyN x)) := hY.old hd701
                        have bel_702 : Chg (fun _ => False) W6 wr.drew := bel0.old hd701
                        clear hY bel0 hd701
                        generalize wr.drew = yz701 at Y_702 bel_702 ⊢
                        refine h_take 0 (.bool false) rfl 139 rfl (by kernel_rfl) (by kernel_rfl) (by kernel_rfl) (by kernel_rfl) (fun _ _ _ h => h) (fun w' _ => by kernel_rfl) trivial ?_
                        simp only [Act.put, List.setIfInBounds_toArray, List.set_cons_zero, List.set_cons_succ]
                        refine h_take 1 (.bool true) rfl 140 rfl (by kernel_rfl) (by kernel_rfl) (by kernel_rfl) (by kernel_rfl) (fun _ _ _ h => h) (fun w' _ => by kernel_rfl) trivial ?_
                        simp only [Act.put, List.setIfInBounds_toArray, List.set_cons_zero, List.set_cons_succ]
                        refine h_take 2 (.bool true) rfl 141 rfl (by kernel_rfl) (by kernel_rfl) (by kernel_rfl) (by kernel_rfl) (fun _ _ _ h => h) (fun w' _ => by kernel_rfl) trivial ?_
                        simp only [Act.put, List.setIfInBounds_toArray, List.set_cons_zero, List.set_cons_succ]
                        refine h_take 3 (.slice kp La.length kc) rfl 142 rfl (by kernel_rfl) (by kernel_rfl) (by kernel_rfl) (by kernel_rfl) (fun _ _ _ h => h) (fun w' _ => by kernel_rfl) trivial ?_
                        simp only [Act.put, List.setIfInBounds_toArray, List.set_cons_zero, List.set_cons_succ]
                        refine h_take 4 (.int .i64 (La.length : Int)) rfl 143 rfl (by kernel_rfl) (by kernel_rfl) (by kernel_rfl) (by kernel_rfl) (fun _ _ _ h => h) (fun w' _ => Sl.run_op_lenK _ _ _ rfl Od.fK.und _ _ _ rfl w') trivial ?_
                        simp only [Act.put, List.setIfInBounds_toArray, List.set_cons_zero, List.set_cons_succ]
                        refine h_take 5 (.int .i64 (r : Int)) rfl 144 rfl (by kernel_rfl) (by kernel_rfl) (by kernel_rfl) (by kernel_rfl) (fun _ _ _ h => h) (fun w' _ => by kernel_rfl) trivial ?_
                        simp only [Act.put, List.setIfInBounds_toArray, List.set_cons_zero, List.set_cons_succ]
                        refine h_take 6 (.bool true) rfl 145 rfl (by kernel_rfl) (by kernel_rfl) (by kernel_rfl) (by kernel_rfl) (fun _ _ _ h => h) (fun w' _ => cmp_lss _ _ _ _ rfl .i64 (La.length : Int) (r : Int) rfl rfl true dl.out w') trivial ?_
                        simp only [Act.put, List.setIfInBounds_toArray, List.set_cons_zero, List.set_cons_succ]
                        refine h_take 7 (.bool true) rfl 146 rfl (by kernel_rfl) (by kernel_rfl) (by kernel_rfl) (by kernel_rfl) (fun _ _ _ h => h) (fun w' _ => by kernel_rfl) trivial ?_
                        simp only [Act.put, List.setIfInBounds_toArray, List.set_cons_zero, List.set_cons_succ]
                        refine h_pass 8 rfl 147 rfl (by kernel_rfl) (by kernel_rfl) (by kernel_rfl) (by kernel_rfl) (fun _ _ _ h => h) trivial ?_
                        simp only [Act.put, List.setIfInBounds_toArray, List.set_cons_zero, List.set_cons_succ]
                        refine h_pass 9 rfl 148 rfl (by kernel_rfl) (by kernel_rfl) (by kernel_rfl) (by kernel_rfl) (fun _ _ _ h => h) trivial ?_
                        simp only [Act.put, List.setIfInBounds_toArray, List.set_cons_zero, List.set_cons_succ]
                        refine h_pass 10 rfl 149 rfl (by kernel_rfl) (by kernel_rfl) (by kernel_rfl) (by kernel_rfl) (fun _ _ _ h => h) trivial ?_
                        simp only [Act.put, List.setIfInBounds_toArray, List.set_cons_zero, List.set_cons_succ]
                        refine h_pass 11 rfl 150 rfl (by kernel_rfl) (by kernel_rfl) (by kernel_rfl) (by kernel_rfl) (fun _ _ _ h => h) trivial ?_
                        simp only [Act.put, List.setIfInBounds_toArray, List.set_cons_zero, List.set_cons_succ]
                        refine h_pass 12 rfl 151 rfl (by kernel_rfl) (by kernel_rfl) (by kernel_rfl) (by kernel_rfl) (fun _ _ _ h => h) trivial ?_
                        simp only [Act.put, List.setIfInBounds_toArray, List.set_cons_zero, List.set_cons_succ]
                        refine h_pass 13 rfl 152 rfl (by kernel_rfl) (by kernel_rfl) (by kernel_rfl) (by kernel_rfl) (fun _ _ _ h => h) trivial ?_
                        simp only [Act.put, List.setIfInBounds_toArray, List.set_cons_zero, List.set_cons_succ]
                        refine h_take 14 (.bool true) rfl 153 rfl (by kernel_rfl) (by kernel_rfl) (by kernel_rfl) (by kernel_rfl) (fun _ _ _ h => h) (fun w' _ => by kernel_rfl) trivial ?_
                        simp only [Act.put, List.setIfInBounds_toArray, List.set_cons_zero, List.set_cons_succ]
                        refine h_take 15 (.bool true) rfl 154 rfl (by kernel_rfl) (by kernel_rfl) (by kernel_rfl) (by kernel_rfl) (fun _ _ _ h => h) (fun w' _ => by kernel_rfl) trivial ?_
                        simp only [Act.put, List.setIfInBounds_toArray, List.set_cons_zero, List.set_cons_succ]
                        refine wpAnyH_done (by kernel_rfl) ?_ _
                        go_wp2_with fail
                        have HCL : Hid (ClashP l) := Lib.hid (Classical.byContradiction fun nc => by have h1 := (HOUT.out nc).1; have h2 := HLR.out; omega)
                        refine (CC.out _ (HBL.out.trans ((bel_702.below (fun k hk => hk.elim) (Nat.le_refl _)).mono HBL.out.size))).mono ?_
                        rintro e y703 ⟨⟨b9, rfl, h9⟩, hB⟩
                        have Y_704 : Row y703 Y 54 (kcs (keyN x)) := Y_702.old hB
                        have bel_704 : Chg (fun _ => False) W6 y703 := bel_702.old hB
                        clear Y_702 bel_702 hB
                        obtain rfl : b9 = true := h9.2 HCL.out
                        clear h9
                        go_wp2_with fail
                        go_ret
                        exact ⟨rfl, (HBL.out.trans ((bel_704.below (fun k hk => hk.elim) (Nat.le_refl _)).mono HBL.out.size))⟩
                      · skip
                        have dl : Hid (decide ((La.length : Int) < (r : Int)) = false) := Lib.hid (decide_eq_false (by omega))
                        clear hlr
                        have HPOS : Hid (0 < La.length) := Lib.hid (by have := HLA0.out; omega)
                        obtain ⟨y0, hy0⟩ : ∃ y0, La[0]? = some y0 := ⟨_, List.getElem?_eq_getElem HPOS.out⟩
                        have HY0 : Hid (y0 ∈ La) := Lib.hid (List.mem_of_getElem? hy0)
                        have KY0 := Lib.hid (HKK.out y0 (List.mem_of_getElem? hy0))
                        have hm0 : (La.map keyN)[0]? = some (keyN y0) := by rw [List.getElem?_map, hy0]; rfl
                        have CM := Lib.hid (fun w0 => Od.compare_any (keyN x) (keyN y0) w0 KK.out KY0.out)
                        have HZ2 : Hid (¬ ClashP l → kcmp (keyN x) (keyN y0) < 0) := Lib.hid fun nc => (HOUT.out nc).2 y0 HY0.out
                        generalize kcmp (keyN x) (keyN y0) = z at CM HZ2
                        obtain ⟨g3, o3, e3, _, hD⟩ := (HA.out.below (bel0.below (fun k hk => hk.elim) (Nat.le_refl _))).at_ 0 (keyN y0) hm0
                        subst e3
                        clear hm0 hy0
                        obtain ⟨v, hv⟩ : ∃ v, decide (0 < z) = v := ⟨_, rfl⟩
                        have HVZ := Lib.hid hv
                        clear hv
                        refine wp_region_held (S := fun w' => Row w' Y 54 (kcs (keyN x)) ∧ w'.rangeAt g3 (o3 + 0 * 65) (kcs (keyN y0)) ∧ True) (by kernel_rfl) ?_
                        change wpAnyH _ _ _ _ _ _ _ _ wr.drew
                        have hd701 : Below wr.heap.size wr wr.drew := (Below.refl _ _).drew
                        have Y_702 : Row wr.drew Y 54 (kcs (keyN x)) := hY.old hd701
                        have E_702 : wr.drew.rangeAt g3 (o3 + 0 * 65) (kcs (keyN y0)) := range_k' hD hd701
                        have bel_702 : Chg (fun _ => False) W6 wr.drew := bel0.old hd701
                        clear hY hD bel0 hd701
                        generalize wr.drew = yz701 at Y_702 E_702 bel_702 ⊢
                        refine h_take 0 (.bool false) rfl 139 rfl (by kernel_rfl) (by kernel_rfl) (by kernel_rfl) (by kernel_rfl) (fun _ _ _ h => h) (fun w' _ => by kernel_rfl) ⟨Y_702, E_702, trivial⟩ ?_
                        simp only [Act.put, List.setIfInBounds_toArray, List.set_cons_zero, List.set_cons_succ]
                        refine h_take 1 (.bool true) rfl 140 rfl (by kernel_rfl) (by kernel_rfl) (by kernel_rfl) (by kernel_rfl) (fun _ _ _ h => h) (fun w' _ => by kernel_rfl) ⟨Y_702, E_702, trivial⟩ ?_
                        simp only [Act.put, List.setIfInBounds_toArray, List.set_cons_zero, List.set_cons_succ]
                        refine h_take 2 (.bool true) rfl 141 rfl (by kernel_rfl) (by kernel_rfl) (by kernel_rfl) (by kernel_rfl) (fun _ _ _ h => h) (fun w' _ => by kernel_rfl) ⟨Y_702, E_702, trivial⟩ ?_
                        simp only [Act.put, List.setIfInBounds_toArray, List.set_cons_zero, List.set_cons_succ]
                        refine h_take 3 (.slice (some ⟨g3, o3, none⟩) La.length kc) rfl 142 rfl (by kernel_rfl) (by kernel_rfl) (by kernel_rfl) (by kernel_rfl) (fun _ _ _ h => h) (fun w' _ => by kernel_rfl) ⟨Y_702, E_702, trivial⟩ ?_
                        simp only [Act.put, List.setIfInBounds_toArray, List.set_cons_zero, List.set_cons_succ]
                        refine h_take 4 (.int .i64 (La.length : Int)) rfl 143 rfl (by kernel_rfl) (by kernel_rfl) (by kernel_rfl) (by kernel_rfl) (fun _ _ _ h => h) (fun w' _ => Sl.run_op_lenK _ _ _ rfl Od.fK.und _ _ _ rfl w') ⟨Y_702, E_702, trivial⟩ ?_
                        simp only [Act.put, List.setIfInBounds_toArray, List.set_cons_zero, List.set_cons_succ]
                        refine h_take 5 (.int .i64 (r : Int)) rfl 144 rfl (by kernel_rfl) (by kernel_rfl) (by kernel_rfl) (by kernel_rfl) (fun _ _ _ h => h) (fun w' _ => by kernel_rfl) ⟨Y_702, E_702, trivial⟩ ?_
                        simp only [Act.put, List.setIfInBounds_toArray, List.set_cons_zero, List.set_cons_succ]
                        refine h_take 6 (.bool false) rfl 145 rfl (by kernel_rfl) (by kernel_rfl) (by kernel_rfl) (by kernel_rfl) (fun _ _ _ h => h) (fun w' _ => cmp_lss _ _ _ _ rfl .i64 (La.length : Int) (r : Int) rfl rfl false dl.out w') ⟨Y_702, E_702, trivial⟩ ?_
                        simp only [Act.put, List.setIfInBounds_toArray, List.set_cons_zero, List.set_cons_succ]
                        refine h_take 7 (.bool false) rfl 146 rfl (by kernel_rfl) (by kernel_rfl) (by kernel_rfl) (by kernel_rfl) (fun _ _ _ h => h) (fun w' _ => by kernel_rfl) ⟨Y_702, E_702, trivial⟩ ?_
                        simp only [Act.put, List.setIfInBounds_toArray, List.set_cons_zero, List.set_cons_succ]
                        refine h_take 8 (.agg (kcs (keyN x)).toArray) rfl 147 rfl (by kernel_rfl) (by kernel_rfl) (by kernel_rfl) (by kernel_rfl) (fun _ _ _ h => h) (fun w' hw => run_op_load _ _ rfl Y (0) rfl (kcs (keyN x)) (((Has.refl _)).range hw.1) ((sz_key KK.out))) ⟨Y_702, E_702, trivial⟩ ?_
                        simp only [Act.put, List.setIfInBounds_toArray, List.set_cons_zero, List.set_cons_succ]
                        refine h_take 9 (.slice (some ⟨g3, o3, none⟩) La.length kc) rfl 148 rfl (by kernel_rfl) (by kernel_rfl) (by kernel_rfl) (by kernel_rfl) (fun _ _ _ h => h) (fun w' _ => by kernel_rfl) ⟨Y_702, E_702, trivial⟩ ?_
                        simp only [Act.put, List.setIfInBounds_toArray, List.set_cons_zero, List.set_cons_succ]
                        refine h_take 10 (.pointer (some ⟨g3, o3 + 0 * 65, none⟩)) rfl 149 rfl (by kernel_rfl) (by kernel_rfl) (by kernel_rfl) (by kernel_rfl) (fun _ _ _ h => h) (fun w' _ => Sl.run_op_index Od.fK _ _ rfl g3 o3 _ _ rfl .i64 _ rfl 0 rfl HPOS.out w') ⟨Y_702, E_702, trivial⟩ ?_
                        simp only [Act.put, List.setIfInBounds_toArray, List.set_cons_zero, List.set_cons_succ]
                        refine h_take 11 (.agg (kcs (keyN y0)).toArray) rfl 150 rfl (by kernel_rfl) (by kernel_rfl) (by kernel_rfl) (by kernel_rfl) (fun _ _ _ h => h) (fun w' hw => run_op_load _ _ rfl g3 (o3 + 0 * 65) rfl (kcs (keyN y0)) hw.2.1 (sz_key KY0.out)) ⟨Y_702, E_702, trivial⟩ ?_
                        simp only [Act.put, List.setIfInBounds_toArray, List.set_cons_zero, List.set_cons_succ]
                        refine h_one (i := 12) (by kernel_rfl) (o_call rfl 151 rfl (by kernel_rfl) (run_op_call 15 _ _ rfl #[.agg (kcs (keyN x)).toArray, .agg (kcs (keyN y0)).toArray] (by simp only [List.map_toArray, List.map_cons, List.map_nil]; rfl) Tryd.func15 (by kernel_rfl) (by kernel_rfl) _) (CM.out _) ?_)
                        rintro e y703 ⟨rfl, hB⟩
                        have Y_704 : Row y703 Y 54 (kcs (keyN x)) := Y_702.old hB
                        have E_704 : y703.rangeAt g3 (o3 + 0 * 65) (kcs (keyN y0)) := range_k' E_702 hB
                        have bel_704 : Chg (fun _ => False) W6 y703 := bel_702.old hB
                        clear Y_702 E_702 bel_702 hB
                        refine ⟨_, rfl, ⟨Y_704, E_704, trivial⟩, ?_⟩
                        simp only [Act.put, List.setIfInBounds_toArray, List.set_cons_zero, List.set_cons_succ]
                        refine h_take 13 (.bool v) rfl 152 rfl (by kernel_rfl) (by kernel_rfl) (by kernel_rfl) (by kernel_rfl) (fun _ _ _ h => h) (fun w' _ => cmp_gtr _ _ _ _ rfl .i64 z 0 rfl rfl v HVZ.out w') ⟨Y_704, E_704, trivial⟩ ?_
                        simp only [Act.put, List.setIfInBounds_toArray, List.set_cons_zero, List.set_cons_succ]
                        refine h_take 14 (.bool v) rfl 153 rfl (by kernel_rfl) (by kernel_rfl) (by kernel_rfl) (by kernel_rfl) (fun _ _ _ h => h) (fun w' _ => by kernel_rfl) ⟨Y_704, E_704, trivial⟩ ?_
                        simp only [Act.put, List.setIfInBounds_toArray, List.set_cons_zero, List.set_cons_succ]
                        refine h_take 15 (.bool v) rfl 154 rfl (by kernel_rfl) (by kernel_rfl) (by kernel_rfl) (by kernel_rfl) (fun _ _ _ h => h) (fun w' _ => by kernel_rfl) ⟨Y_704, E_704, trivial⟩ ?_
                        simp only [Act.put, List.setIfInBounds_toArray, List.set_cons_zero, List.set_cons_succ]
                        refine wpAnyH_done (by kernel_rfl) ?_ _
                        cases v with
                        | false =>
                          go_wp2_with fail
                          go_roundw
                          case rel => exact ⟨⟨n + 1, by have := HNL.out; omega, by go_num⟩, (bel_704.below (fun k hk => hk.elim) (Nat.le_refl _))⟩
                          case measure => simp [intOf]; have := HNL.out; omega
                        | true =>
                          go_wp2_with fail
                          have HCL : Hid (ClashP l) := Lib.hid (Classical.byContradiction fun nc => by have h1 := HZ2.out nc; have h2 := of_decide_eq_true HVZ.out; omega)
                          refine (CC.out _ (HBL.out.trans ((bel_704.below (fun k hk => hk.elim) (Nat.le_refl _)).mono HBL.out.size))).mono ?_
                          rintro e y705 ⟨⟨b9, rfl, h9⟩, hB⟩
                          have Y_706 : Row y705 Y 54 (kcs (keyN x)) := Y_704.old hB
                          have E_706 : y705.rangeAt g3 (o3 + 0 * 65) (kcs (keyN y0)) := range_k' E_704 hB
                          have bel_706 : Chg (fun _ => False) W6 y705 := bel_704.old hB
                          clear Y_704 E_704 bel_704 hB
                          obtain rfl : b9 = true := h9.2 HCL.out
                          clear h9
                          go_wp2_with fail
                          go_ret
                          exact ⟨rfl, (HBL.out.trans ((bel_706.below (fun k hk => hk.elim) (Nat.le_refl _)).mono HBL.out.size))⟩
              · skip
                obtain rfl : n = l.length := by omega
                have HB := Lib.hid (HBL.out.trans (bel.mono HBL.out.size))
                clear bel bel0 hlt hn
                go_wp2_with fail
                go_ret
                exact ⟨rfl, HB.out⟩
  · skip
    go_wp2_with fail
    refine (CN.out _).mono ?_
    rintro e y1 ⟨hN2, hB⟩
    have bel_4 : Chg (fun _ => False) w y1 := bel_3.old hB
    clear bel_3 hB
    rcases hN2 with ⟨h1, h2, _⟩ | ⟨_, rfl⟩
    case inl => exact absurd ⟨h1, h2⟩ hN
    clear hN hsz0
    try simp only [Act.put]
    go_wp2_with fail
    go_ret
    exact ⟨rfl, (bel_4.below (fun k hk => hk.elim) (Nat.le_refl _))⟩
end Go.Proofs.YtnjmocobncncdaaDoor.So
