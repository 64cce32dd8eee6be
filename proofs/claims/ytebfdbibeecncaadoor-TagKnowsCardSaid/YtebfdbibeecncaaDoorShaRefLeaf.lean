/-
  The contracts of the document's answers for turned numbers and for xor, over this seat's translation.
-/
import Derived.Test.YtebfdbibeecncaaDoorShaLeaf
namespace Go.Proofs.YtebfdbibeecncaaDoor.Sha
open Go.ChangeShapes Go.WideShapes Go.ChangeAt Go.RowKit Go.Proofs.YtebfdbibeecncaaDoor.Num Go.Proofs.YtebfdbibeecncaaDoor.Mem Go.Proofs.YtebfdbibeecncaaDoor.Bt
set_option linter.unusedVariables false

theorem refTurn_any (n : Nat) (c : Int) (w : World) (hn : n < 4294967296) (h2 : 0 ≤ c) (h3 : c ≤ 31) :
    Calls Tryd.prog 25 #[.int .u32 (n : Int), .int .i64 c] w fun e w' => e = .returned (.int .u32 ((rotr c.toNat n : Nat) : Int)) ∧ w = w' := by
  obtain ⟨m, rfl⟩ : ∃ m : Nat, c = (m : Int) := ⟨c.toNat, by omega⟩
  have hm31 : m ≤ 31 := by omega
  clear h2 h3
  rw [Int.toNat_natCast]
  have hs : ((m : Int) + 32) % 32 = (m : Int) := by omega
  have hs0 : (m : Int) % 32 = (m : Int) := by omega
  have e := turn_rotr n m hm31
  have HE := Lib.hid e; clear e
  go_enter Tryd.func25, Tryd.ntmps25
  go_wp2
  go_loop [0, 6, 7] (fun u i _ => ∃ k : Nat, k ≤ m ∧ i = .int .i64 k ∧ u = .int .u32 (rotN k (n : Int))) (fun _ i _ => m - (intOf i).toNat)
  case atStart => exact ⟨0, Nat.zero_le _, rfl, rfl⟩
  case round =>
    obtain ⟨k, hk, rfl, rfl⟩ := hrel
    obtain ⟨hb0, hb1⟩ := rotN_bd k (n : Int) (by omega) (by omega)
    have hs1 : Hid (rotN (k + 1) (n : Int) = rotN k (n : Int) / 2 + 2147483648 * (rotN k (n : Int) % 2)) := Lib.hid rfl
    by_cases hlt : k < m
    · go_wp2
      go_round
      case rel => exact ⟨k + 1, by omega, by go_num, by rw [hs1.out]⟩
      case measure => simp [intOf]; omega
    · obtain rfl : k = m := by omega
      go_wp2
      go_ret
      exact ⟨ret_u32 HE.out, rfl⟩
theorem refXor_any (x y z : Nat) (w : World) (hx : x < 4294967296) (hy : y < 4294967296) (hz : z < 4294967296) :
    Calls Tryd.prog 24 #[.int .u32 (x : Int), .int .u32 (y : Int), .int .u32 (z : Int)] w fun e w' => e = .returned (.int .u32 ((x ^^^ y ^^^ z : Nat) : Int)) ∧ w = w' := by
  go_enter Tryd.func24, Tryd.ntmps24
  go_wp2
  go_ret
  exact ⟨ret_u32 (xor3_plain x y z hx hy hz), rfl⟩
end Go.Proofs.YtebfdbibeecncaaDoor.Sha
