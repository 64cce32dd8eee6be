/-
  The walks of layer 5's statements over this seat's translation, out of the contracts: each returns true for all numbers of its parameters' types, and changes nothing that was there.
-/
import Derived.Test.YtpifmcpecpaiiaaSlot
namespace Go.Proofs.Ytpifmcpecpaiiaa.Slot
open Go.ChangeShapes Go.WideShapes Go.ChangeAt Go.RowKit
open Num (in32 keep32 grown_trans ret_int in32_yes in32_no keep32_yes keep32_no keep32_bd)
set_option linter.unusedVariables false

theorem first_yes (a n : Int) (w : World) (h0 : 0 ≤ a) (h : a * 24 ≤ 4294967295) (hn : a * 24 = n) :
    Calls Try.prog 7 #[.int .u32 a] w fun e w' => e = .returned (.tuple #[.int .u32 n, .int .i64 0]) ∧ Grown w w' := by
  have c := first_any a w h0 (by omega)
  rwa [keep32_yes (by omega) h, in32_yes (by omega) h, over_yes, hn] at c
theorem first_no (a : Int) (w : World) (h1 : a ≤ 4294967295) (h : 4294967295 < a * 24) :
    Calls Try.prog 7 #[.int .u32 a] w fun e w' => e = .returned (.tuple #[.int .u32 0, .int .i64 5]) ∧ Grown w w' := by
  have c := first_any a w (by omega) h1
  rwa [keep32_no (by omega), in32_no (by omega), over_no] at c
theorem later_yes (a b n : Int) (w : World) (h0 : 0 ≤ a) (h2 : 0 ≤ b) (h : a + b ≤ 4294967295) (hn : a + b = n) :
    Calls Try.prog 9 #[.int .u32 a, .int .u32 b] w fun e w' => e = .returned (.tuple #[.int .u32 n, .int .i64 0]) ∧ Grown w w' := by
  have c := later_any a b w h0 (by omega) h2 (by omega)
  rwa [keep32_yes (by omega) h, in32_yes (by omega) h, over_yes, hn] at c
theorem later_no (a b : Int) (w : World) (h0 : 0 ≤ a) (h1 : a ≤ 4294967295) (h2 : 0 ≤ b) (h3 : b ≤ 4294967295) (h : 4294967295 < a + b) :
    Calls Try.prog 9 #[.int .u32 a, .int .u32 b] w fun e w' => e = .returned (.tuple #[.int .u32 0, .int .i64 5]) ∧ Grown w w' := by
  have c := later_any a b w h0 h1 h2 h3
  rwa [keep32_no (by omega), in32_no (by omega), over_no] at c

/-! awake: the calls whose answers the document fixes: it returns true. -/
set_option maxRecDepth 100000 in
theorem awake_any (w : World) : Calls Try.prog 6 #[] w fun e w' => e = .returned (.bool true) ∧ Grown w w' := by
  go_enter Try.func6, Try.ntmps6
  go_wp2_with fail
  refine (first_yes 2 48 _ (by omega) (by omega) (by omega)).mono ?_
  rintro e w1 ⟨rfl, g1⟩
  go_wp2_with fail
  refine (first_no 1073741824 _ (by omega) (by omega)).mono ?_
  rintro e w2 ⟨rfl, g2⟩
  go_wp2_with fail
  refine (later_yes 5 6 11 _ (by omega) (by omega) (by omega) (by omega)).mono ?_
  rintro e w3 ⟨rfl, g3⟩
  go_wp2_with fail
  refine (epoch_any 40 _ (by omega) (by omega)).mono ?_
  rintro e w4 ⟨rfl, g4⟩
  go_wp2_with fail
  refine (place_any 40 _ (by omega) (by omega)).mono ?_
  rintro e w5 ⟨rfl, g5⟩
  go_wp2_with fail
  refine (sub_any 40 _ (by omega) (by omega)).mono ?_
  rintro e w6 ⟨rfl, g6⟩
  go_wp2_with fail
  refine (ring_any 13 _ (by omega) (by omega)).mono ?_
  rintro e w7 ⟨rfl, g7⟩
  go_wp2_with fail
  refine (locking_any 40 _ (by omega) (by omega)).mono ?_
  rintro e w8 ⟨rfl, g8⟩
  go_wp2_with fail
  refine (locking_any 39 _ (by omega) (by omega)).mono ?_
  rintro e w9 ⟨rfl, g9⟩
  go_wp2_with fail
  refine (turns_any 23 24 _ (by omega) (by omega) (by omega) (by omega)).mono ?_
  rintro e w10 ⟨rfl, g10⟩
  go_wp2_with fail
  refine (turns_any 24 47 _ (by omega) (by omega) (by omega) (by omega)).mono ?_
  rintro e w11 ⟨rfl, g11⟩
  go_wp2
  go_ret
  exact ⟨rfl, grown_trans g1 (grown_trans g2 (grown_trans g3 (grown_trans g4 (grown_trans g5 (grown_trans g6 (grown_trans g7 (grown_trans g8 (grown_trans g9 (grown_trans g10 g11)))))))))⟩

set_option maxRecDepth 100000 in
set_option maxHeartbeats 1000000 in
theorem slotTells_walk (s b u p : Int) (w : World) (s0 : 0 ≤ s) (s1 : s ≤ 4294967295) (b0 : 0 ≤ b) (b1 : b ≤ 4294967295) (u0 : 0 ≤ u) (u1 : u ≤ 4294967295) (p0 : 0 ≤ p) (p1 : p ≤ 4294967295) :
    Calls Try.prog 3 #[.int .u32 s, .int .u32 b, .int .u32 u, .int .u32 p] w fun e w' => e = .returned (.bool true) ∧ Grown w w' := by
  go_enter Try.func3, Try.ntmps3
  go_wp2_with fail
  refine (awake_any _).mono ?_
  rintro e w1 ⟨rfl, g1⟩
  go_wp2_with fail
  refine (first_any p _ p0 p1).mono ?_
  rintro e w2 ⟨rfl, g2⟩
  go_wp2_with fail
  refine (rfirst_any p _ p0 p1).mono ?_
  rintro e w3 ⟨rfl, rfl⟩
  go_wp2_with fail
  refine (later_any s b _ s0 s1 b0 b1).mono ?_
  rintro e w3 ⟨rfl, g3⟩
  go_wp2_with fail
  refine (rlater_any s b _ s0 s1 b0 b1).mono ?_
  rintro e w4 ⟨rfl, rfl⟩
  go_wp2_with fail
  refine (epoch_any s _ s0 s1).mono ?_
  rintro e w4 ⟨rfl, g4⟩
  go_wp2_with fail
  refine (repoch_any s _ s0 s1).mono ?_
  rintro e w5 ⟨rfl, rfl⟩
  go_wp2_with fail
  refine (place_any s _ s0 s1).mono ?_
  rintro e w5 ⟨rfl, g5⟩
  go_wp2_with fail
  refine (rplace_any s _ s0 s1).mono ?_
  rintro e w6 ⟨rfl, rfl⟩
  go_wp2_with fail
  refine (locking_any s _ s0 s1).mono ?_
  rintro e w6 ⟨rfl, g6⟩
  go_wp2_with fail
  refine (rlocking_any s _ s0 s1).mono ?_
  rintro e w7 ⟨rfl, rfl⟩
  go_wp2_with fail
  refine (sub_any s _ s0 s1).mono ?_
  rintro e w7 ⟨rfl, g7⟩
  go_wp2_with fail
  refine (rsub_any s _ s0 s1).mono ?_
  rintro e w8 ⟨rfl, rfl⟩
  go_wp2_with fail
  refine (ring_any u _ u0 u1).mono ?_
  rintro e w8 ⟨rfl, g8⟩
  go_wp2_with fail
  refine (rring_any u _ u0 u1).mono ?_
  rintro e w9 ⟨rfl, rfl⟩
  go_wp2_with fail
  refine (turns_any s b _ s0 s1 b0 b1).mono ?_
  rintro e w9 ⟨rfl, g9⟩
  go_wp2_with fail
  refine (repoch_any b _ b0 b1).mono ?_
  rintro e w10 ⟨rfl, rfl⟩
  go_wp2_with fail
  refine (repoch_any s _ s0 s1).mono ?_
  rintro e w10 ⟨rfl, rfl⟩
  go_wp2
  go_ret
  exact ⟨rfl, grown_trans g1 (grown_trans g2 (grown_trans g3 (grown_trans g4 (grown_trans g5 (grown_trans g6 (grown_trans g7 (grown_trans g8 g9)))))))⟩
end Go.Proofs.Ytpifmcpecpaiiaa.Slot
