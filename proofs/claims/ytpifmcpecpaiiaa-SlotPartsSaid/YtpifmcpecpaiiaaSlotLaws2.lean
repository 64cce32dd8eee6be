/-
  The walks of SlotParts and SlotLocks over this seat's translation, out of the contracts: each returns true for all numbers of its parameters' types, and changes nothing that was there.
-/
import Derived.Test.YtpifmcpecpaiiaaSlotLaws
namespace Go.Proofs.Ytpifmcpecpaiiaa.Slot
open Go.ChangeShapes Go.WideShapes Go.ChangeAt Go.RowKit
open Num (in32 keep32 grown_trans ret_int)
set_option linter.unusedVariables false

set_option maxRecDepth 100000 in
set_option maxHeartbeats 1000000 in
theorem slotParts_end (s : Int) (w : World) (s0 : 0 ≤ s) (s1 : s ≤ 4294967295) (h : s = 4294967295) :
    Calls Try.prog 4 #[.int .u32 s] w fun e w' => e = .returned (.bool true) ∧ Grown w w' := by
  have b1 : 0 ≤ s / 24 ∧ s / 24 ≤ 178956970 := by omega
  have b2 : 0 ≤ s - s / 24 * 24 := by omega
  have b3 : 0 ≤ s % 24 ∧ s % 24 < 24 := by omega
  have b4 : 0 ≤ s / 3 ∧ s / 3 ≤ 1431655765 := by omega
  have b5 : 0 ≤ s / 3 % 4 ∧ s / 3 % 4 < 4 := by omega
  obtain ⟨b11, b12⟩ := b1
  obtain ⟨b31, b32⟩ := b3
  obtain ⟨b41, b42⟩ := b4
  obtain ⟨b51, b52⟩ := b5
  have f1 : decide (s < s / 24 * 24) = false := decide_eq_false (by omega)
  have f2 : (s - s / 24 * 24 != s % 24) = false := bne_eq_false_iff_eq.2 (by omega)
  have f3 : decide (24 ≤ s % 24) = false := decide_eq_false (by omega)
  have f4 : (s == 4294967295) = true := beq_iff_eq.2 h
  clear h
  go_enter Try.func4, Try.ntmps4
  go_wp2_with fail
  refine (awake_any _).mono ?_
  rintro e w1 ⟨rfl, g1⟩
  go_wp2_with fail
  refine (epoch_any s _ s0 s1).mono ?_
  rintro e w2 ⟨rfl, g2⟩
  go_wp2_with fail
  refine (first_yes (s / 24) (s / 24 * 24) _ (by omega) (by omega) rfl).mono ?_
  rintro e w3 ⟨rfl, g3⟩
  go_wp2_with fail
  refine (place_any s _ s0 s1).mono ?_
  rintro e w4 ⟨rfl, g4⟩
  go_wp2_with fail
  refine (place_any s _ s0 s1).mono ?_
  rintro e w5 ⟨rfl, g5⟩
  go_wp2
  go_ret
  exact ⟨rfl, (grown_trans g1 (grown_trans g2 (grown_trans g3 (grown_trans g4 g5))))⟩
set_option maxRecDepth 100000 in
set_option maxHeartbeats 1000000 in
theorem slotParts_turn (s : Int) (w : World) (s0 : 0 ≤ s) (s1 : s ≤ 4294967295) (h : s ≠ 4294967295) (ht : (s + 1) % 24 = 0) (ho : (s + 1) % 3 = 0) :
    Calls Try.prog 4 #[.int .u32 s] w fun e w' => e = .returned (.bool true) ∧ Grown w w' := by
  have b1 : 0 ≤ s / 24 ∧ s / 24 ≤ 178956970 := by omega
  have b2 : 0 ≤ s - s / 24 * 24 := by omega
  have b3 : 0 ≤ s % 24 ∧ s % 24 < 24 := by omega
  have b4 : 0 ≤ s / 3 ∧ s / 3 ≤ 1431655765 := by omega
  have b5 : 0 ≤ s / 3 % 4 ∧ s / 3 % 4 < 4 := by omega
  obtain ⟨b11, b12⟩ := b1
  obtain ⟨b31, b32⟩ := b3
  obtain ⟨b41, b42⟩ := b4
  obtain ⟨b51, b52⟩ := b5
  have f1 : decide (s < s / 24 * 24) = false := decide_eq_false (by omega)
  have f2 : (s - s / 24 * 24 != s % 24) = false := bne_eq_false_iff_eq.2 (by omega)
  have f3 : decide (24 ≤ s % 24) = false := decide_eq_false (by omega)
  have s2 : s + 1 ≤ 4294967295 := by omega
  have f4 : (s == 4294967295) = false := beq_eq_false_iff_ne.2 (by omega)
  have f5 : (s + 1 != s + 1) = false := by simp
  have f6 : decide ((s + 1) / 24 < s / 24) = false := decide_eq_false (by omega)
  have t1 : ((s + 1) % 24 == 0) = true := beq_iff_eq.2 ht
  have t2 : decide (s / 24 < (s + 1) / 24) = true := decide_eq_true (by omega)
  have t3 : ((s + 1) / 24 != s / 24 + 1) = false := bne_eq_false_iff_eq.2 (by omega)
  have o1 : ((s + 1) % 3 == 0) = true := beq_iff_eq.2 ho
  have o2 : ((s + 1) / 3 == s / 3 + 1) = true := beq_iff_eq.2 (by omega)
  have o3 : ((s + 1) / 3 % 4 == (s / 3 + 1) % 4) = true := beq_iff_eq.2 (by omega)
  clear h ht ho
  go_enter Try.func4, Try.ntmps4
  go_wp2_with fail
  refine (awake_any _).mono ?_
  rintro e w1 ⟨rfl, g1⟩
  go_wp2_with fail
  refine (epoch_any s _ s0 s1).mono ?_
  rintro e w2 ⟨rfl, g2⟩
  go_wp2_with fail
  refine (first_yes (s / 24) (s / 24 * 24) _ (by omega) (by omega) rfl).mono ?_
  rintro e w3 ⟨rfl, g3⟩
  go_wp2_with fail
  refine (place_any s _ s0 s1).mono ?_
  rintro e w4 ⟨rfl, g4⟩
  go_wp2_with fail
  refine (place_any s _ s0 s1).mono ?_
  rintro e w5 ⟨rfl, g5⟩
  go_wp2_with fail
  refine (later_yes s 1 (s + 1) _ s0 (by omega) (by omega) rfl).mono ?_
  rintro e w6 ⟨rfl, g6⟩
  go_wp2_with fail
  refine (place_any (s + 1) _ (by omega) (by omega)).mono ?_
  rintro e w7 ⟨rfl, g7⟩
  go_wp2_with fail
  refine (turns_any s (s + 1) _ s0 s1 (by omega) (by omega)).mono ?_
  rintro e w8 ⟨rfl, g8⟩
  go_wp2_with fail
  refine (turns_any (s + 1) s _ (by omega) (by omega) s0 s1).mono ?_
  rintro e w9 ⟨rfl, g9⟩
  go_wp2_with fail
  refine (epoch_any (s + 1) _ (by omega) (by omega)).mono ?_
  rintro e w10 ⟨rfl, g10⟩
  go_wp2_with fail
  refine (epoch_any s _ s0 s1).mono ?_
  rintro e w11 ⟨rfl, g11⟩
  go_wp2_with fail
  refine (sub_any (s + 1) _ (by omega) (by omega)).mono ?_
  rintro e w12 ⟨rfl, g12⟩
  go_wp2_with fail
  refine (sub_any s _ s0 s1).mono ?_
  rintro e w13 ⟨rfl, g13⟩
  go_wp2_with fail
  refine (sub_any (s + 1) _ (by omega) (by omega)).mono ?_
  rintro e w14 ⟨rfl, g14⟩
  go_wp2_with fail
  refine (ring_any ((s + 1) / 3) _ (by omega) (by omega)).mono ?_
  rintro e w15 ⟨rfl, g15⟩
  go_wp2_with fail
  refine (sub_any s _ s0 s1).mono ?_
  rintro e w16 ⟨rfl, g16⟩
  go_wp2_with fail
  refine (ring_any (s / 3) _ (by omega) (by omega)).mono ?_
  rintro e w17 ⟨rfl, g17⟩
  go_wp2
  go_ret
  exact ⟨rfl, (grown_trans g1 (grown_trans g2 (grown_trans g3 (grown_trans g4 (grown_trans g5 (grown_trans g6 (grown_trans g7 (grown_trans g8 (grown_trans g9 (grown_trans g10 (grown_trans g11 (grown_trans g12 (grown_trans g13 (grown_trans g14 (grown_trans g15 (grown_trans g16 g17))))))))))))))))⟩
set_option maxRecDepth 100000 in
set_option maxHeartbeats 1000000 in
theorem slotParts_other (s : Int) (w : World) (s0 : 0 ≤ s) (s1 : s ≤ 4294967295) (h : s ≠ 4294967295) (ht : (s + 1) % 24 ≠ 0) (ho : (s + 1) % 3 = 0) :
    Calls Try.prog 4 #[.int .u32 s] w fun e w' => e = .returned (.bool true) ∧ Grown w w' := by
  have b1 : 0 ≤ s / 24 ∧ s / 24 ≤ 178956970 := by omega
  have b2 : 0 ≤ s - s / 24 * 24 := by omega
  have b3 : 0 ≤ s % 24 ∧ s % 24 < 24 := by omega
  have b4 : 0 ≤ s / 3 ∧ s / 3 ≤ 1431655765 := by omega
  have b5 : 0 ≤ s / 3 % 4 ∧ s / 3 % 4 < 4 := by omega
  obtain ⟨b11, b12⟩ := b1
  obtain ⟨b31, b32⟩ := b3
  obtain ⟨b41, b42⟩ := b4
  obtain ⟨b51, b52⟩ := b5
  have f1 : decide (s < s / 24 * 24) = false := decide_eq_false (by omega)
  have f2 : (s - s / 24 * 24 != s % 24) = false := bne_eq_false_iff_eq.2 (by omega)
  have f3 : decide (24 ≤ s % 24) = false := decide_eq_false (by omega)
  have s2 : s + 1 ≤ 4294967295 := by omega
  have f4 : (s == 4294967295) = false := beq_eq_false_iff_ne.2 (by omega)
  have f5 : (s + 1 != s + 1) = false := by simp
  have f6 : decide ((s + 1) / 24 < s / 24) = false := decide_eq_false (by omega)
  have t1 : ((s + 1) % 24 == 0) = false := beq_eq_false_iff_ne.2 ht
  have t2 : decide (s / 24 < (s + 1) / 24) = false := decide_eq_false (by omega)
  have t3 : ((s + 1) / 24 != s / 24) = false := bne_eq_false_iff_eq.2 (by omega)
  have o1 : ((s + 1) % 3 == 0) = true := beq_iff_eq.2 ho
  have o2 : ((s + 1) / 3 == s / 3 + 1) = true := beq_iff_eq.2 (by omega)
  have o3 : ((s + 1) / 3 % 4 == (s / 3 + 1) % 4) = true := beq_iff_eq.2 (by omega)
  clear h ht ho
  go_enter Try.func4, Try.ntmps4
  go_wp2_with fail
  refine (awake_any _).mono ?_
  rintro e w1 ⟨rfl, g1⟩
  go_wp2_with fail
  refine (epoch_any s _ s0 s1).mono ?_
  rintro e w2 ⟨rfl, g2⟩
  go_wp2_with fail
  refine (first_yes (s / 24) (s / 24 * 24) _ (by omega) (by omega) rfl).mono ?_
  rintro e w3 ⟨rfl, g3⟩
  go_wp2_with fail
  refine (place_any s _ s0 s1).mono ?_
  rintro e w4 ⟨rfl, g4⟩
  go_wp2_with fail
  refine (place_any s _ s0 s1).mono ?_
  rintro e w5 ⟨rfl, g5⟩
  go_wp2_with fail
  refine (later_yes s 1 (s + 1) _ s0 (by omega) (by omega) rfl).mono ?_
  rintro e w6 ⟨rfl, g6⟩
  go_wp2_with fail
  refine (place_any (s + 1) _ (by omega) (by omega)).mono ?_
  rintro e w7 ⟨rfl, g7⟩
  go_wp2_with fail
  refine (turns_any s (s + 1) _ s0 s1 (by omega) (by omega)).mono ?_
  rintro e w8 ⟨rfl, g8⟩
  go_wp2_with fail
  refine (turns_any (s + 1) s _ (by omega) (by omega) s0 s1).mono ?_
  rintro e w9 ⟨rfl, g9⟩
  go_wp2_with fail
  refine (epoch_any (s + 1) _ (by omega) (by omega)).mono ?_
  rintro e w10 ⟨rfl, g10⟩
  go_wp2_with fail
  refine (epoch_any s _ s0 s1).mono ?_
  rintro e w11 ⟨rfl, g11⟩
  go_wp2_with fail
  refine (sub_any (s + 1) _ (by omega) (by omega)).mono ?_
  rintro e w12 ⟨rfl, g12⟩
  go_wp2_with fail
  refine (sub_any s _ s0 s1).mono ?_
  rintro e w13 ⟨rfl, g13⟩
  go_wp2_with fail
  refine (sub_any (s + 1) _ (by omega) (by omega)).mono ?_
  rintro e w14 ⟨rfl, g14⟩
  go_wp2_with fail
  refine (ring_any ((s + 1) / 3) _ (by omega) (by omega)).mono ?_
  rintro e w15 ⟨rfl, g15⟩
  go_wp2_with fail
  refine (sub_any s _ s0 s1).mono ?_
  rintro e w16 ⟨rfl, g16⟩
  go_wp2_with fail
  refine (ring_any (s / 3) _ (by omega) (by omega)).mono ?_
  rintro e w17 ⟨rfl, g17⟩
  go_wp2
  go_ret
  exact ⟨rfl, (grown_trans g1 (grown_trans g2 (grown_trans g3 (grown_trans g4 (grown_trans g5 (grown_trans g6 (grown_trans g7 (grown_trans g8 (grown_trans g9 (grown_trans g10 (grown_trans g11 (grown_trans g12 (grown_trans g13 (grown_trans g14 (grown_trans g15 (grown_trans g16 g17))))))))))))))))⟩
set_option maxRecDepth 100000 in
set_option maxHeartbeats 1000000 in
theorem slotParts_same (s : Int) (w : World) (s0 : 0 ≤ s) (s1 : s ≤ 4294967295) (h : s ≠ 4294967295) (ht : (s + 1) % 24 ≠ 0) (ho : (s + 1) % 3 ≠ 0) :
    Calls Try.prog 4 #[.int .u32 s] w fun e w' => e = .returned (.bool true) ∧ Grown w w' := by
  have b1 : 0 ≤ s / 24 ∧ s / 24 ≤ 178956970 := by omega
  have b2 : 0 ≤ s - s / 24 * 24 := by omega
  have b3 : 0 ≤ s % 24 ∧ s % 24 < 24 := by omega
  have b4 : 0 ≤ s / 3 ∧ s / 3 ≤ 1431655765 := by omega
  have b5 : 0 ≤ s / 3 % 4 ∧ s / 3 % 4 < 4 := by omega
  obtain ⟨b11, b12⟩ := b1
  obtain ⟨b31, b32⟩ := b3
  obtain ⟨b41, b42⟩ := b4
  obtain ⟨b51, b52⟩ := b5
  have f1 : decide (s < s / 24 * 24) = false := decide_eq_false (by omega)
  have f2 : (s - s / 24 * 24 != s % 24) = false := bne_eq_false_iff_eq.2 (by omega)
  have f3 : decide (24 ≤ s % 24) = false := decide_eq_false (by omega)
  have s2 : s + 1 ≤ 4294967295 := by omega
  have f4 : (s == 4294967295) = false := beq_eq_false_iff_ne.2 (by omega)
  have f5 : (s + 1 != s + 1) = false := by simp
  have f6 : decide ((s + 1) / 24 < s / 24) = false := decide_eq_false (by omega)
  have t1 : ((s + 1) % 24 == 0) = false := beq_eq_false_iff_ne.2 ht
  have t2 : decide (s / 24 < (s + 1) / 24) = false := decide_eq_false (by omega)
  have t3 : ((s + 1) / 24 != s / 24) = false := bne_eq_false_iff_eq.2 (by omega)
  have o1 : ((s + 1) % 3 == 0) = false := beq_eq_false_iff_ne.2 ho
  have o2 : ((s + 1) / 3 == s / 3) = true := beq_iff_eq.2 (by omega)
  clear h ht ho
  go_enter Try.func4, Try.ntmps4
  go_wp2_with fail
  refine (awake_any _).mono ?_
  rintro e w1 ⟨rfl, g1⟩
  go_wp2_with fail
  refine (epoch_any s _ s0 s1).mono ?_
  rintro e w2 ⟨rfl, g2⟩
  go_wp2_with fail
  refine (first_yes (s / 24) (s / 24 * 24) _ (by omega) (by omega) rfl).mono ?_
  rintro e w3 ⟨rfl, g3⟩
  go_wp2_with fail
  refine (place_any s _ s0 s1).mono ?_
  rintro e w4 ⟨rfl, g4⟩
  go_wp2_with fail
  refine (place_any s _ s0 s1).mono ?_
  rintro e w5 ⟨rfl, g5⟩
  go_wp2_with fail
  refine (later_yes s 1 (s + 1) _ s0 (by omega) (by omega) rfl).mono ?_
  rintro e w6 ⟨rfl, g6⟩
  go_wp2_with fail
  refine (place_any (s + 1) _ (by omega) (by omega)).mono ?_
  rintro e w7 ⟨rfl, g7⟩
  go_wp2_with fail
  refine (turns_any s (s + 1) _ s0 s1 (by omega) (by omega)).mono ?_
  rintro e w8 ⟨rfl, g8⟩
  go_wp2_with fail
  refine (turns_any (s + 1) s _ (by omega) (by omega) s0 s1).mono ?_
  rintro e w9 ⟨rfl, g9⟩
  go_wp2_with fail
  refine (epoch_any (s + 1) _ (by omega) (by omega)).mono ?_
  rintro e w10 ⟨rfl, g10⟩
  go_wp2_with fail
  refine (epoch_any s _ s0 s1).mono ?_
  rintro e w11 ⟨rfl, g11⟩
  go_wp2_with fail
  refine (sub_any (s + 1) _ (by omega) (by omega)).mono ?_
  rintro e w12 ⟨rfl, g12⟩
  go_wp2_with fail
  refine (sub_any s _ s0 s1).mono ?_
  rintro e w13 ⟨rfl, g13⟩
  go_wp2
  go_ret
  exact ⟨rfl, (grown_trans g1 (grown_trans g2 (grown_trans g3 (grown_trans g4 (grown_trans g5 (grown_trans g6 (grown_trans g7 (grown_trans g8 (grown_trans g9 (grown_trans g10 (grown_trans g11 (grown_trans g12 g13))))))))))))⟩
theorem slotParts_walk (s : Int) (w : World) (s0 : 0 ≤ s) (s1 : s ≤ 4294967295) :
    Calls Try.prog 4 #[.int .u32 s] w fun e w' => e = .returned (.bool true) ∧ Grown w w' := by
  by_cases h : s = 4294967295
  · exact slotParts_end s w s0 s1 h
  · by_cases ht : (s + 1) % 24 = 0
    · exact slotParts_turn s w s0 s1 h ht (by omega)
    · by_cases ho : (s + 1) % 3 = 0
      · exact slotParts_other s w s0 s1 h ht ho
      · exact slotParts_same s w s0 s1 h ht ho

/-! The epoch's slots, one by one: as many of them are locking as have been seen, up to 16. -/
structure LoRel (w : World) (k : Nat) (many : Value) (i : Value) (wr : World) : Prop where
  hk : k ≤ 24
  hi : i = .int .u32 (k : Int)
  hm : many = .int .i64 ((min k 16 : Nat) : Int)
  hg : Grown w wr
def LoAny (w : World) (many i : Value) (wr : World) : Prop := ∃ k : Nat, LoRel w k many i wr

theorem slotLocks_none (p : Int) (w : World) (p0 : 0 ≤ p) (p1 : p ≤ 4294967295) (h : 4294967295 < p * 24) :
    Calls Try.prog 5 #[.int .u32 p] w fun e w' => e = .returned (.bool true) ∧ Grown w w' := by
  go_enter Try.func5, Try.ntmps5
  go_wp2_with fail
  refine (awake_any _).mono ?_
  rintro e w1 ⟨rfl, g1⟩
  go_wp2_with fail
  refine (first_no p _ p1 h).mono ?_
  rintro e w2 ⟨rfl, g2⟩
  go_wp2
  go_ret
  exact ⟨rfl, grown_trans g1 g2⟩
set_option maxRecDepth 100000 in
set_option maxHeartbeats 1000000 in
theorem slotLocks_some (p : Int) (w : World) (p0 : 0 ≤ p) (p1 : p * 24 ≤ 4294967295) :
    Calls Try.prog 5 #[.int .u32 p] w fun e w' => e = .returned (.bool true) ∧ Grown w w' := by
  go_enter Try.func5, Try.ntmps5
  go_wp2_with fail
  refine (awake_any _).mono ?_
  rintro e w1 ⟨rfl, g1⟩
  go_wp2_with fail
  refine (first_yes p (p * 24) _ p0 p1 rfl).mono ?_
  rintro e w2 ⟨rfl, g2⟩
  have g := grown_trans g1 g2
  clear g1 g2
  go_wp2
  go_loopw [5, 20] (fun m i wr => LoAny w m i wr) (fun _ i _ => 24 - (intOf i).toNat)
  case atStart => exact ⟨0, by omega, rfl, rfl, g⟩
  case round =>
    obtain ⟨k, hk, rfl, rfl, hg⟩ := hrel
    by_cases hlt : k < 24
    · by_cases hov : p * 24 + k ≤ 4294967295
      · have e1 : (p * 24 + k) % 24 = k := by omega
        have e2 : (p * 24 + k) / 24 = p := by omega
        have C1 := Lib.hid (fun w => by have h := locking_any (p * 24 + k) w (by omega) hov; rwa [e1] at h : ∀ w, Calls Try.prog 15 #[.int .u32 (p * 24 + k)] w fun e w' => e = .returned (.bool (decide ((k : Int) < 16))) ∧ Grown w w')
        have C2 := Lib.hid (fun w => by have h := epoch_any (p * 24 + k) w (by omega) hov; rwa [e2] at h : ∀ w, Calls Try.prog 11 #[.int .u32 (p * 24 + k)] w fun e w' => e = .returned (.int .u32 p) ∧ Grown w w')
        clear e1 e2
        by_cases h16 : k < 16
        · have f1 : decide ((k : Int) < 16) = true := decide_eq_true (by omega)
          go_wp2_with fail
          refine (later_yes (p * 24) k (p * 24 + k) _ (by omega) (by omega) hov rfl).mono ?_
          rintro e w3 ⟨rfl, g3⟩
          go_wp2_with fail
          refine (C1.out _).mono ?_
          rintro e w4 ⟨rfl, g4⟩
          go_wp2_with fail
          refine (C1.out _).mono ?_
          rintro e w5 ⟨rfl, g5⟩
          go_wp2_with fail
          refine (C2.out _).mono ?_
          rintro e w6 ⟨rfl, g6⟩
          go_wp2
          go_roundw
          case rel => exact ⟨k + 1, by omega, by go_num, by go_num, grown_trans hg (grown_trans g3 (grown_trans g4 (grown_trans g5 g6)))⟩
          case measure => simp [intOf]; omega
        · have f1 : decide ((k : Int) < 16) = false := decide_eq_false (by omega)
          go_wp2_with fail
          refine (later_yes (p * 24) k (p * 24 + k) _ (by omega) (by omega) hov rfl).mono ?_
          rintro e w3 ⟨rfl, g3⟩
          go_wp2_with fail
          refine (C1.out _).mono ?_
          rintro e w4 ⟨rfl, g4⟩
          go_wp2_with fail
          refine (C1.out _).mono ?_
          rintro e w5 ⟨rfl, g5⟩
          go_wp2_with fail
          refine (C2.out _).mono ?_
          rintro e w6 ⟨rfl, g6⟩
          go_wp2
          go_roundw
          case rel => exact ⟨k + 1, by omega, by go_num, by go_num, grown_trans hg (grown_trans g3 (grown_trans g4 (grown_trans g5 g6)))⟩
          case measure => simp [intOf]; omega
      · go_wp2_with fail
        refine (later_no (p * 24) k _ (by omega) (by omega) (by omega) (by omega) (by omega)).mono ?_
        rintro e w3 ⟨rfl, g3⟩
        go_wp2
        go_ret
        exact ⟨rfl, grown_trans hg g3⟩
    · obtain rfl : k = 24 := by omega
      go_wp2
      go_ret
      exact ⟨rfl, hg⟩
theorem slotLocks_walk (p : Int) (w : World) (p0 : 0 ≤ p) (p1 : p ≤ 4294967295) :
    Calls Try.prog 5 #[.int .u32 p] w fun e w' => e = .returned (.bool true) ∧ Grown w w' := by
  by_cases h : p * 24 ≤ 4294967295
  · exact slotLocks_some p w p0 h
  · exact slotLocks_none p w p0 p1 (by omega)
end Go.Proofs.Ytpifmcpecpaiiaa.Slot
