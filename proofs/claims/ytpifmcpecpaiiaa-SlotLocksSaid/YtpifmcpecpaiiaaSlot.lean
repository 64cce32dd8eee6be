/-
  The contracts of package slot's functions, and of the document's answers for them: what each call returns for every argument, and that nothing that was there changes.
-/
import Derived.Test.YtpifmcpecpaiiaaNum
import Derived.BigQuiet
namespace Go.Proofs.Ytpifmcpecpaiiaa.Slot
open Go.ChangeShapes Go.WideShapes Go.ChangeAt Go.RowKit
open Num (in32 keep32 grown_trans ret_int)
set_option linter.unusedVariables false

/-- An error's number: OK where it fits, else ErrOver. -/
def over (x : Bool) : Int := if x = true then 0 else 5
theorem over_yes : over true = 0 := rfl
theorem over_no : over false = 5 := rfl
theorem keep32_no0 {n : Int} (h : in32 n = false) : keep32 n = 0 := by unfold keep32; rw [if_neg (by rw [h]; exact Bool.noConfusion)]
theorem ret_errno {k : IntKind} {a b : Int} {c d : Int} (h : a = b) (g : c = d) : Ending.returned (.tuple #[.int k a, .int .i64 c]) = .returned (.tuple #[.int k b, .int .i64 d]) := by rw [h, g]
theorem ret_bool {a b : Bool} (h : a = b) : Ending.returned (.bool a) = .returned (.bool b) := by rw [h]

theorem parted_any (n b : Int) (w : World) (h0 : 0 ≤ n) (h1 : n ≤ 4294967295) (b0 : 1 ≤ b) (b1 : b ≤ 4294967295) :
    Calls Try.prog 27 #[.int .u32 n, .int .u32 b] w fun e w' => e = .returned (.tuple #[.int .u32 (n / b), .int .u32 (n % b)]) ∧ Grown w w' := by
  have hz : (b != 0) = true := bne_iff_ne.2 (by omega)
  have hz2 : (b == 0) = false := beq_eq_false_iff_ne.2 (by omega)
  have hd0 : 0 ≤ n / b := Int.ediv_nonneg h0 (by omega)
  have hd1 : n / b ≤ 4294967295 := Int.le_trans (Int.ediv_le_self b h0) h1
  have hm0 : 0 ≤ n % b := Int.emod_nonneg n (by omega)
  have hm1 : n % b ≤ 4294967295 := by have := Int.emod_lt_of_pos n (by omega : 0 < b); omega
  go_enter Try.func27, Try.ntmps27
  go_wp2_with fail
  go_quiet (fail)
  go_wp2
  go_ret2
  exact ⟨rfl, Grown.refl w⟩
theorem epoch_any (a : Int) (w : World) (h0 : 0 ≤ a) (h1 : a ≤ 4294967295) :
    Calls Try.prog 11 #[.int .u32 a] w fun e w' => e = .returned (.int .u32 (a / 24)) ∧ Grown w w' := by
  go_enter Try.func11, Try.ntmps11
  go_wp2_with fail
  refine (parted_any a 24 _ h0 h1 (by omega) (by omega)).mono ?_
  rintro e w1 ⟨rfl, g1⟩
  go_wp2
  go_ret
  exact ⟨rfl, g1⟩
theorem place_any (a : Int) (w : World) (h0 : 0 ≤ a) (h1 : a ≤ 4294967295) :
    Calls Try.prog 13 #[.int .u32 a] w fun e w' => e = .returned (.int .u32 (a % 24)) ∧ Grown w w' := by
  go_enter Try.func13, Try.ntmps13
  go_wp2_with fail
  refine (parted_any a 24 _ h0 h1 (by omega) (by omega)).mono ?_
  rintro e w1 ⟨rfl, g1⟩
  go_wp2
  go_ret
  exact ⟨rfl, g1⟩
theorem sub_any (a : Int) (w : World) (h0 : 0 ≤ a) (h1 : a ≤ 4294967295) :
    Calls Try.prog 17 #[.int .u32 a] w fun e w' => e = .returned (.int .u32 (a / 3)) ∧ Grown w w' := by
  go_enter Try.func17, Try.ntmps17
  go_wp2_with fail
  refine (parted_any a 3 _ h0 h1 (by omega) (by omega)).mono ?_
  rintro e w1 ⟨rfl, g1⟩
  go_wp2
  go_ret
  exact ⟨rfl, g1⟩
theorem ring_any (a : Int) (w : World) (h0 : 0 ≤ a) (h1 : a ≤ 4294967295) :
    Calls Try.prog 19 #[.int .u32 a] w fun e w' => e = .returned (.int .i64 (a % 4)) ∧ Grown w w' := by
  go_enter Try.func19, Try.ntmps19
  go_wp2_with fail
  refine (parted_any a 4 _ h0 h1 (by omega) (by omega)).mono ?_
  rintro e w1 ⟨rfl, g1⟩
  go_wp2
  go_ret
  exact ⟨rfl, g1⟩
theorem locking_any (a : Int) (w : World) (h0 : 0 ≤ a) (h1 : a ≤ 4294967295) :
    Calls Try.prog 15 #[.int .u32 a] w fun e w' => e = .returned (.bool (decide (a % 24 < 16))) ∧ Grown w w' := by
  go_enter Try.func15, Try.ntmps15
  go_wp2_with fail
  refine (place_any a _ h0 h1).mono ?_
  rintro e w1 ⟨rfl, g1⟩
  go_wp2
  go_ret
  exact ⟨rfl, g1⟩
theorem turns_any (a b : Int) (w : World) (h0 : 0 ≤ a) (h1 : a ≤ 4294967295) (h2 : 0 ≤ b) (h3 : b ≤ 4294967295) :
    Calls Try.prog 21 #[.int .u32 a, .int .u32 b] w fun e w' => e = .returned (.bool (decide (a / 24 < b / 24))) ∧ Grown w w' := by
  go_enter Try.func21, Try.ntmps21
  go_wp2_with fail
  refine (epoch_any b _ h2 h3).mono ?_
  rintro e w1 ⟨rfl, g1⟩
  go_wp2_with fail
  refine (epoch_any a _ h0 h1).mono ?_
  rintro e w2 ⟨rfl, g2⟩
  go_wp2
  go_ret
  exact ⟨rfl, grown_trans g1 g2⟩
theorem fitting_any (n : Int) (x : Bool) (w : World) (h : x = false → n = 0) :
    Calls Try.prog 22 #[.int .u32 n, .bool x] w fun e w' => e = .returned (.tuple #[.int .u32 n, .int .i64 (over x)]) ∧ w = w' := by
  cases x
  · obtain rfl := h rfl
    clear h
    go_enter Try.func22, Try.ntmps22
    go_wp2
    go_ret2
    exact ⟨rfl, rfl⟩
  · clear h
    go_enter Try.func22, Try.ntmps22
    go_wp2
    go_ret2
    exact ⟨rfl, rfl⟩
theorem first_any (a : Int) (w : World) (h0 : 0 ≤ a) (h1 : a ≤ 4294967295) :
    Calls Try.prog 7 #[.int .u32 a] w fun e w' => e = .returned (.tuple #[.int .u32 (keep32 (a * 24)), .int .i64 (over (in32 (a * 24)))]) ∧ Grown w w' := by
  go_enter Try.func7, Try.ntmps7
  go_wp2_with fail
  refine (Num.mul32_any a 24 _ h0 h1 (by omega) (by omega)).mono ?_
  rintro e w1 ⟨rfl, g1⟩
  go_wp2_with fail
  refine (fitting_any _ _ _ keep32_no0).mono ?_
  rintro e w2 ⟨rfl, rfl⟩
  go_wp2
  go_ret2
  exact ⟨rfl, g1⟩
theorem later_any (a b : Int) (w : World) (h0 : 0 ≤ a) (h1 : a ≤ 4294967295) (h2 : 0 ≤ b) (h3 : b ≤ 4294967295) :
    Calls Try.prog 9 #[.int .u32 a, .int .u32 b] w fun e w' => e = .returned (.tuple #[.int .u32 (keep32 (a + b)), .int .i64 (over (in32 (a + b)))]) ∧ Grown w w' := by
  go_enter Try.func9, Try.ntmps9
  go_wp2_with fail
  refine (Num.add32_any a b _ h0 h1 h2 h3).mono ?_
  rintro e w1 ⟨rfl, g1⟩
  go_wp2_with fail
  refine (fitting_any _ _ _ keep32_no0).mono ?_
  rintro e w2 ⟨rfl, rfl⟩
  go_wp2
  go_ret2
  exact ⟨rfl, g1⟩
/-! The document's answers. -/
theorem repoch_any (a : Int) (w : World) (h0 : 0 ≤ a) (h1 : a ≤ 4294967295) :
    Calls Try.prog 12 #[.int .u32 a] w fun e w' => e = .returned (.int .u32 (a / 24)) ∧ w = w' := by
  go_enter Try.func12, Try.ntmps12
  go_wp2
  go_ret
  exact ⟨rfl, rfl⟩
theorem rplace_any (a : Int) (w : World) (h0 : 0 ≤ a) (h1 : a ≤ 4294967295) :
    Calls Try.prog 14 #[.int .u32 a] w fun e w' => e = .returned (.int .u32 (a % 24)) ∧ w = w' := by
  go_enter Try.func14, Try.ntmps14
  go_wp2_with fail
  refine (repoch_any a _ h0 h1).mono ?_
  rintro e w1 ⟨rfl, rfl⟩
  go_wp2
  go_ret
  exact ⟨ret_int (by omega), rfl⟩
theorem rlocking_any (a : Int) (w : World) (h0 : 0 ≤ a) (h1 : a ≤ 4294967295) :
    Calls Try.prog 16 #[.int .u32 a] w fun e w' => e = .returned (.bool (decide (a % 24 < 16))) ∧ w = w' := by
  go_enter Try.func16, Try.ntmps16
  go_wp2_with fail
  refine (rplace_any a _ h0 h1).mono ?_
  rintro e w1 ⟨rfl, rfl⟩
  go_wp2
  go_ret
  exact ⟨rfl, rfl⟩
theorem rsub_any (a : Int) (w : World) (h0 : 0 ≤ a) (h1 : a ≤ 4294967295) :
    Calls Try.prog 18 #[.int .u32 a] w fun e w' => e = .returned (.int .u32 (a / 3)) ∧ w = w' := by
  go_enter Try.func18, Try.ntmps18
  go_wp2
  go_ret
  exact ⟨rfl, rfl⟩
theorem rring_any (a : Int) (w : World) (h0 : 0 ≤ a) (h1 : a ≤ 4294967295) :
    Calls Try.prog 20 #[.int .u32 a] w fun e w' => e = .returned (.int .i64 (a % 4)) ∧ w = w' := by
  go_enter Try.func20, Try.ntmps20
  go_wp2
  go_ret
  exact ⟨ret_int (by omega), rfl⟩
theorem rfirst_any (a : Int) (w : World) (h0 : 0 ≤ a) (h1 : a ≤ 4294967295) :
    Calls Try.prog 8 #[.int .u32 a] w fun e w' => e = .returned (.tuple #[.int .u32 (keep32 (a * 24)), .int .i64 (over (in32 (a * 24)))]) ∧ w = w' := by
  have C := Lib.hid (Num.rmul32_any a 24 w h0 h1 (by omega) (by omega))
  generalize hn : keep32 (a * 24) = n at C ⊢
  have hz : in32 (a * 24) = false → n = 0 := fun h => by rw [← hn]; exact keep32_no0 h
  clear hn
  generalize in32 (a * 24) = x at C hz ⊢
  cases x
  · obtain rfl := hz rfl
    clear hz
    go_enter Try.func8, Try.ntmps8
    go_wp2_with fail
    refine C.out.mono ?_
    rintro e w1 ⟨rfl, rfl⟩
    go_wp2
    go_ret2
    exact ⟨rfl, rfl⟩
  · clear hz
    go_enter Try.func8, Try.ntmps8
    go_wp2_with fail
    refine C.out.mono ?_
    rintro e w1 ⟨rfl, rfl⟩
    go_wp2
    go_ret2
    exact ⟨rfl, rfl⟩
theorem rlater_any (a b : Int) (w : World) (h0 : 0 ≤ a) (h1 : a ≤ 4294967295) (h2 : 0 ≤ b) (h3 : b ≤ 4294967295) :
    Calls Try.prog 10 #[.int .u32 a, .int .u32 b] w fun e w' => e = .returned (.tuple #[.int .u32 (keep32 (a + b)), .int .i64 (over (in32 (a + b)))]) ∧ w = w' := by
  have C := Lib.hid (Num.radd32_any a b w h0 h1 h2 h3)
  generalize hn : keep32 (a + b) = n at C ⊢
  have hz : in32 (a + b) = false → n = 0 := fun h => by rw [← hn]; exact keep32_no0 h
  clear hn
  generalize in32 (a + b) = x at C hz ⊢
  cases x
  · obtain rfl := hz rfl
    clear hz
    go_enter Try.func10, Try.ntmps10
    go_wp2_with fail
    refine C.out.mono ?_
    rintro e w1 ⟨rfl, rfl⟩
    go_wp2
    go_ret2
    exact ⟨rfl, rfl⟩
  · clear hz
    go_enter Try.func10, Try.ntmps10
    go_wp2_with fail
    refine C.out.mono ?_
    rintro e w1 ⟨rfl, rfl⟩
    go_wp2
    go_ret2
    exact ⟨rfl, rfl⟩
end Go.Proofs.Ytpifmcpecpaiiaa.Slot
