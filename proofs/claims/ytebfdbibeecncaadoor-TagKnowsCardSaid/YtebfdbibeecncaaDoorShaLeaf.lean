/-
  The contracts of the small functions of package sha, over this seat's translation.
-/
import Derived.Test.YtebfdbibeecncaaDoorRows
import Derived.Test.YtebfdbibeecncaaDoorNumPlain
import Derived.Test.YtebfdbibeecncaaDoorShaBits
import Derived.Test.YtebfdbibeecncaaDoorBytes
import Derived.WalkKit
import Derived.ProofKit
import Derived.OpenShut
import Derived.Handy
import Derived.PlainAid
import Derived.Lib.Hide
import Derived.Deep.QuietTactic
import Derived.BigQuiet
namespace Go.Proofs.YtebfdbibeecncaaDoor.Sha
open Go.ChangeShapes Go.WideShapes Go.ChangeAt Go.RowKit Go.Proofs.YtebfdbibeecncaaDoor.Num Go.Proofs.YtebfdbibeecncaaDoor.Mem Go.Proofs.YtebfdbibeecncaaDoor.Bt
set_option linter.unusedVariables false

theorem ret_u32 {a : Int} {n : Nat} (h : a = (n : Int)) : Ending.returned (.int .u32 a) = .returned (.int .u32 ((n : Nat) : Int)) := by rw [h]

theorem turn_any (n : Nat) (c : Int) (w : World) (hn : n < 4294967296) (h2 : 0 ≤ c) (h3 : c ≤ 31) :
    Calls Tryd.prog 38 #[.int .u32 (n : Int), .int .i64 c] w fun e w' => e = .returned (.int .u32 ((rotr c.toNat n : Nat) : Int)) ∧ w = w' := by
  obtain ⟨k, hk⟩ : ∃ k : Nat, (k : Int) = c % 32 := ⟨(c % 32).toNat, by omega⟩
  have hk31 : k ≤ 31 := by omega
  have hr : bits BinOp.and IntKind.u32 c 31 = (k : Int) := by have := low5 c; rw [Int.emod_eq_of_lt h2 (by omega)] at this; rw [this, hk]
  have e : c.toNat = k := by omega
  have HK := Lib.hid e; clear e hk
  go_enter Tryd.func38, Tryd.ntmps38
  go_wp2
  go_ret
  refine ⟨ret_u32 ?_, rfl⟩
  rw [HK.out, ← turn_rotr n k hk31]
  rw [← turn_plain (n : Int) k hk31 (by omega) (by omega)]
theorem split_any (n : Nat) (w : World) (hn : n < 18446744073709551616) :
    Calls Tryd.prog 34 #[.int .u64 (n : Int)] w fun e w' => e = .returned (.tuple #[.int .u32 ((n / 4294967296 : Nat) : Int), .int .u32 ((n % 4294967296 : Nat) : Int)]) ∧ w = w' := by
  have h1 : (n : Int) ≤ 18446744073709551615 := by omega
  go_enter Tryd.func34, Tryd.ntmps34
  go_wp2
  go_ret2
  exact ⟨by congr 2, rfl⟩
theorem xor3_plain (a b c : Nat) (ha : a < 4294967296) (hb : b < 4294967296) (hc : c < 4294967296) : bits BinOp.xor IntKind.u32 (bits BinOp.xor IntKind.u32 (a : Int) (b : Int)) (c : Int) = ((a ^^^ b ^^^ c : Nat) : Int) := by
  rw [u32_xor_nat a b ha hb, u32_xor_nat _ c (xor_lt ha hb) hc]
theorem big1_any (n : Nat) (w : World) (hn : n < 4294967296) :
    Calls Tryd.prog 30 #[.int .u32 (n : Int)] w fun e w' => e = .returned (.int .u32 ((bg1 n : Nat) : Int)) ∧ w = w' := by
  go_enter Tryd.func30, Tryd.ntmps30
  go_wp2_with (refine (turn_any n _ _ hn (by omega) (by omega)).mono ?_; rintro e w' ⟨rfl, rfl⟩)
  go_ret
  exact ⟨ret_u32 (xor3_plain _ _ _ (rotr_lt n 6 (by omega) hn) (rotr_lt n 11 (by omega) hn) (rotr_lt n 25 (by omega) hn)), rfl⟩
theorem big0_any (n : Nat) (w : World) (hn : n < 4294967296) :
    Calls Tryd.prog 32 #[.int .u32 (n : Int)] w fun e w' => e = .returned (.int .u32 ((bg0 n : Nat) : Int)) ∧ w = w' := by
  go_enter Tryd.func32, Tryd.ntmps32
  go_wp2_with (refine (turn_any n _ _ hn (by omega) (by omega)).mono ?_; rintro e w' ⟨rfl, rfl⟩)
  go_ret
  exact ⟨ret_u32 (xor3_plain _ _ _ (rotr_lt n 2 (by omega) hn) (rotr_lt n 13 (by omega) hn) (rotr_lt n 22 (by omega) hn)), rfl⟩
theorem small0_any (n : Nat) (w : World) (hn : n < 4294967296) :
    Calls Tryd.prog 37 #[.int .u32 (n : Int)] w fun e w' => e = .returned (.int .u32 ((sm0 n : Nat) : Int)) ∧ w = w' := by
  go_enter Tryd.func37, Tryd.ntmps37
  go_wp2_with (refine (turn_any n _ _ hn (by omega) (by omega)).mono ?_; rintro e w' ⟨rfl, rfl⟩)
  go_ret
  exact ⟨ret_u32 (xor3_plain _ _ (n / 8) (rotr_lt n 7 (by omega) hn) (rotr_lt n 18 (by omega) hn) (by omega)), rfl⟩
theorem small1_any (n : Nat) (w : World) (hn : n < 4294967296) :
    Calls Tryd.prog 36 #[.int .u32 (n : Int)] w fun e w' => e = .returned (.int .u32 ((sm1 n : Nat) : Int)) ∧ w = w' := by
  go_enter Tryd.func36, Tryd.ntmps36
  go_wp2_with (refine (turn_any n _ _ hn (by omega) (by omega)).mono ?_; rintro e w' ⟨rfl, rfl⟩)
  go_ret
  exact ⟨ret_u32 (xor3_plain _ _ (n / 1024) (rotr_lt n 17 (by omega) hn) (rotr_lt n 19 (by omega) hn) (by omega)), rfl⟩
theorem choice_any (x y z : Nat) (w : World) (hx : x < 4294967296) (hy : y < 4294967296) (hz : z < 4294967296) :
    Calls Tryd.prog 31 #[.int .u32 (x : Int), .int .u32 (y : Int), .int .u32 (z : Int)] w fun e w' => e = .returned (.int .u32 ((chs x y z : Nat) : Int)) ∧ w = w' := by
  go_enter Tryd.func31, Tryd.ntmps31
  go_wp2
  go_ret
  refine ⟨ret_u32 ?_, rfl⟩
  rw [show IntKind.u32.max = 4294967295 from by decide, not_plain x hx, u32_and_nat x y hx hy, u32_and_nat _ z (by omega) hz, u32_or_nat _ _ (and_lt hx) (and_lt (by omega))]
  rfl
theorem majority_any (x y z : Nat) (w : World) (hx : x < 4294967296) (hy : y < 4294967296) (hz : z < 4294967296) :
    Calls Tryd.prog 33 #[.int .u32 (x : Int), .int .u32 (y : Int), .int .u32 (z : Int)] w fun e w' => e = .returned (.int .u32 ((mjr x y z : Nat) : Int)) ∧ w = w' := by
  go_enter Tryd.func33, Tryd.ntmps33
  go_wp2
  go_ret
  refine ⟨ret_u32 ?_, rfl⟩
  rw [u32_and_nat x y hx hy, u32_and_nat x z hx hz, u32_and_nat y z hy hz, u32_or_nat _ _ (and_lt hx) (and_lt hx), u32_or_nat _ _ (or_lt (and_lt hx) (and_lt hx)) (and_lt hy)]
  rfl
theorem word_any (b off len cap x0 x1 x2 x3 : Nat) (w : World) (hlen : 4 ≤ len) (hl : len ≤ 1000) (c0 : w.cell? ⟨b, off, none⟩ = some (.int .u8 (x0 : Int))) (c1 : w.cell? ⟨b, off + 1, none⟩ = some (.int .u8 (x1 : Int)))
    (c2 : w.cell? ⟨b, off + 2, none⟩ = some (.int .u8 (x2 : Int))) (c3 : w.cell? ⟨b, off + 3, none⟩ = some (.int .u8 (x3 : Int))) (h0 : x0 < 256) (h1 : x1 < 256) (h2 : x2 < 256) (h3 : x3 < 256) :
    Calls Tryd.prog 35 #[.slice (some ⟨b, off, none⟩) len cap] w fun e w' => e = .returned (.int .u32 ((be4 x0 x1 x2 x3 : Nat) : Int)) ∧ Below w.heap.size w w' := by
  have i0 : (0 : Int) < (len : Int) := by omega
  have i1 : (1 : Int) < (len : Int) := by omega
  have i2 : (2 : Int) < (len : Int) := by omega
  have i3 : (3 : Int) < (len : Int) := by omega
  go_enter Tryd.func35, Tryd.ntmps35
  go_wp2
  go_quiet (fail)
  go_wp2
  go_ret
  refine ⟨ret_u32 ?_, below_drewN _ _ _⟩
  have e0 : ((x0 : Int) * 16777216) = ((x0 * 16777216 : Nat) : Int) := by omega
  have e1 : ((x1 : Int) * 65536) = ((x1 * 65536 : Nat) : Int) := by omega
  have e2 : ((x2 : Int) * 256) = ((x2 * 256 : Nat) : Int) := by omega
  rw [e0, e1, e2, u32_or_nat _ _ (by omega) (by omega), u32_or_nat _ _ (or_lt (by omega) (by omega)) (by omega), u32_or_nat _ _ (or_lt (or_lt (by omega) (by omega)) (by omega)) (by omega), be4_or x0 x1 x2 x3 h0 h1 h2 h3]
theorem lay4 (cs : List Value) (off : Nat) (a b c d : Value) (h : off + 4 ≤ cs.length) : ((((cs.set off a).set (off + 1) b).set (off + 2) c).set (off + 3) d) = lay cs off [a, b, c, d] := by
  induction off generalizing cs with
  | zero =>
    match cs, h with
    | v0 :: v1 :: v2 :: v3 :: r, _ => rfl
  | succ off ih =>
    cases cs with
    | nil => simp at h
    | cons v r =>
      have e := ih r (by simp at h; omega)
      simp only [lay, List.take_succ_cons, List.cons_append, List.length_cons, List.length_nil] at e ⊢
      rw [show off + 1 + (0 + 1 + 1 + 1 + 1) = (off + (0 + 1 + 1 + 1 + 1)) + 1 from by omega, List.drop_succ_cons, ← e]
      simp only [show off + 1 + 1 = (off + 1) + 1 from rfl, show off + 1 + 2 = (off + 2) + 1 from rfl, show off + 1 + 3 = (off + 3) + 1 from rfl, List.set_cons_succ]
theorem u8s_bytes4 (x : Nat) (hx : x < 4294967296) : u8s (bytes4 x) = [.int .u8 ((x : Int) / 16777216), .int .u8 ((x : Int) / 65536 % 256), .int .u8 ((x : Int) / 256 % 256), .int .u8 ((x : Int) % 256)] := by
  have e : ((x / 16777216 % 256 : Nat) : Int) = (x : Int) / 16777216 := by omega
  show [Value.int .u8 ((x / 16777216 % 256 : Nat) : Int), .int .u8 ((x / 65536 % 256 : Nat) : Int), .int .u8 ((x / 256 % 256 : Nat) : Int), .int .u8 ((x % 256 : Nat) : Int)] = _
  rw [e]
  rfl
theorem put_any (b off len cap x : Nat) (t : TypeId) (cs : List Value) (w : World) (hlen : 4 ≤ len) (hl : len ≤ 1000) (hx : x < 4294967296) (hr : Row w b t cs) (hf : off + 4 ≤ cs.length) :
    Calls Tryd.prog 28 #[.slice (some ⟨b, off, none⟩) len cap, .int .u32 (x : Int)] w fun e w' => e = .returned (.tuple #[]) ∧ Row w' b t (lay cs off (u8s (bytes4 x))) ∧ Only b w w' ∧ Hid (w'.heap.size = w.heap.size) := by
  have i0 : (0 : Int) < (len : Int) := by omega
  have i1 : (1 : Int) < (len : Int) := by omega
  have i2 : (2 : Int) < (len : Int) := by omega
  have i3 : (3 : Int) < (len : Int) := by omega
  obtain ⟨v0, e0⟩ : ∃ v, cs[off]? = some v := ⟨_, List.getElem?_eq_getElem (by omega)⟩
  obtain ⟨v1, e1⟩ : ∃ v, cs[off + 1]? = some v := ⟨_, List.getElem?_eq_getElem (by omega)⟩
  obtain ⟨v2, e2⟩ : ∃ v, cs[off + 2]? = some v := ⟨_, List.getElem?_eq_getElem (by omega)⟩
  obtain ⟨v3, e3⟩ : ∃ v, cs[off + 3]? = some v := ⟨_, List.getElem?_eq_getElem (by omega)⟩
  have c0 := hr.cell e0
  have c1 := hr.cell e1
  have c2 := hr.cell e2
  have c3 := hr.cell e3
  have f0 := hr.frozen off
  have f1 := hr.frozen (off + 1)
  have f2 := hr.frozen (off + 2)
  have f3 := hr.frozen (off + 3)
  clear e0 e1 e2 e3
  go_enter Tryd.func28, Tryd.ntmps28
  go_wp2
  go_end0
  refine ⟨rfl, ((((hr.set _).set _).set _).set _).congr ?_, (((Only.setCell b _ w _).trans (Only.setCell b _ _ _)).trans (Only.setCell b _ _ _)).trans (Only.setCell b _ _ _), ?_⟩
  · rw [lay4 cs off _ _ _ _ hf, u8s_bytes4 x hx]
  · show _ = _
    simp [World.setCell]
end Go.Proofs.YtebfdbibeecncaaDoor.Sha
