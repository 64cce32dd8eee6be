/-
  The contract of the document's Padded (the bytes, and what stands behind them), over this seat's translation.
-/
import Derived.Test.YtebfdbibeecncaaDoorShaSum
namespace Go.Proofs.YtebfdbibeecncaaDoor.Sha
open Go.ChangeShapes Go.WideShapes Go.ChangeAt Go.RowKit Go.Proofs.YtebfdbibeecncaaDoor.Num Go.Proofs.YtebfdbibeecncaaDoor.Mem Go.Proofs.YtebfdbibeecncaaDoor.Bt
set_option linter.unusedVariables false

/-- The numbers by which the bytes of a number are told. -/
def pw : Nat → Nat
  | 0 => 72057594037927936
  | k + 1 => pw k / 256
theorem pw_pos (k : Nat) (h : k < 8) : 1 ≤ pw k := by
  match k, h with
  | 0, _ => decide
  | 1, _ => decide
  | 2, _ => decide
  | 3, _ => decide
  | 4, _ => decide
  | 5, _ => decide
  | 6, _ => decide
  | 7, _ => decide
theorem pw_le (k : Nat) : pw k ≤ 72057594037927936 := by
  induction k with
  | zero => exact Nat.le_refl _
  | succ k ih => exact Nat.le_trans (Nat.div_le_self _ _) ih
theorem bytes8_get (n k : Nat) (h : k < 8) : (bytes8 n).take (k + 1) = (bytes8 n).take k ++ [n / pw k % 256] := by
  match k, h with
  | 0, _ => show [n / 4294967296 / 16777216 % 256] = [n / 72057594037927936 % 256]; congr 1; omega
  | 1, _ => show [_, n / 4294967296 / 65536 % 256] = [_, n / 281474976710656 % 256]; congr 2; omega
  | 2, _ => show [_, _, n / 4294967296 / 256 % 256] = [_, _, n / 1099511627776 % 256]; congr 3; omega
  | 3, _ => show [_, _, _, n / 4294967296 % 256] = [_, _, _, n / 4294967296 % 256]; rfl
  | 4, _ => show [_, _, _, _, n % 4294967296 / 16777216 % 256] = [_, _, _, _, n / 16777216 % 256]; congr 5; omega
  | 5, _ => show [_, _, _, _, _, n % 4294967296 / 65536 % 256] = [_, _, _, _, _, n / 65536 % 256]; congr 6; omega
  | 6, _ => show [_, _, _, _, _, _, n % 4294967296 / 256 % 256] = [_, _, _, _, _, _, n / 256 % 256]; congr 7; omega
  | 7, _ => show [_, _, _, _, _, _, _, n % 4294967296 % 256] = [_, _, _, _, _, _, _, n / 1 % 256]; congr 8; omega
/-- What Padded leaves. -/
structure PadPost (w : World) (bs : List Nat) (e : Ending) (w' : World) : Prop where
  ex : ∃ p cap, e = .returned (.slice p (padded bs).length cap) ∧ Own w' w.heap.size p cap (padded bs)
  bel : Below w.heap.size w w'
structure PdRel (w : World) (xs : List Nat) (v : Value) (wr : World) : Prop where
  ex : ∃ p cap, v = .slice p xs.length cap ∧ Own wr w.heap.size p cap xs
  bel : Below w.heap.size w wr
theorem zeros_snoc (z : Nat) : List.replicate (z + 1) (0 : Nat) = List.replicate z 0 ++ [0] := List.replicate_succ'

set_option maxHeartbeats 1000000 in
set_option maxRecDepth 100000 in
theorem padded_any (bs : List Nat) (p : Option Addr) (cap : Nat) (w : World) (hb : AllLt 256 bs) (hsz : bs.length ≤ 900000) (hcap : bs.length ≤ cap) (hnil : p = none → cap = 0) (hp : bs ≠ [] → ∃ g o, p = some ⟨g, o, none⟩ ∧ w.rangeAt g o (u8s bs)) :
    Calls Tryd.prog 19 #[.slice p bs.length cap] w (PadPost w bs) := by
  have HP := Lib.hid hp; have HN := Lib.hid hnil; clear hp hnil
  obtain ⟨Z, hZ⟩ : ∃ Z : Nat, Z = (119 - bs.length % 64) % 64 := ⟨_, rfl⟩
  have hZ1 : (bs.length + 1 + Z) % 64 = 56 := by omega
  have hZ2 : Z < 64 := by omega
  have hpad : padded bs = bs ++ [128] ++ List.replicate Z 0 ++ bytes8 (8 * bs.length) := by unfold padded ending; rw [hZ]; simp
  have HPAD := Lib.hid hpad; have HZ1 := Lib.hid hZ1; clear hpad hZ hZ1
  go_enter Tryd.func19, Tryd.ntmps19
  go_wp2_with (first
    | ((refine arm_buildSlice (o := ⟨some 7, _, _, _, _, _⟩) rfl 0 _ rfl [] #[] (by simp) bs0 ?_); intro b1 w1 hb1 hR1 hN1; have hs1 : w1.heap.size = w.heap.size + 1 := hN1.size)
    | ((refine arm_append (o := ⟨some 9, _, _, _, _, _⟩) rfl _ _ rfl w.heap.size _ _ _ [] rfl rfl (own_new hR1 (by have := hb1.out; omega)) p bs.length cap bs rfl rfl (fun h => ⟨by have h1 := HN.out h; omega, HN.out h⟩) (fun hne => by obtain ⟨g, o, e, hr⟩ := HP.out hne; exact ⟨g, o, e, range_block hr (hN1.below.block g (range_lt hr (by intro h; apply hne; simpa [u8s] using h)))⟩) (by simp; omega) (by omega) ?_); intro p2 cap2 w2 hO2 hB2; have hs2 : w1.heap.size ≤ w2.heap.size := hB2.size)
    | ((refine arm_buildSlice (o := ⟨some 10, _, _, _, _, _⟩) rfl 1 _ rfl [.int .u8 128] #[(0, .int .u8 128)] (by simp [Act.eval]) (bs1 128) ?_); intro b3 w3 hb3 hR3 hN3; have hs3 : w3.heap.size = w2.heap.size + 1 := hN3.size)
    | ((refine arm_append (o := ⟨some 11, _, _, _, _, _⟩) rfl _ _ rfl w.heap.size _ _ _ ([] ++ bs) (by simp) rfl (hO2.below hN3.below) (some ⟨b3, 0, none⟩) 1 1 [128] rfl rfl (fun h => by cases h) (fun _ => ⟨b3, 0, rfl, hR3.range 0 _ (fun j v hj => by rw [Nat.zero_add]; exact hj)⟩) (by simp; omega) (by omega) ?_); intro p4 cap4 w4 hO4 hB4))
  have bel4 : Below w.heap.size w w4 := (((hN1.below.trans hB2).trans (hN3.below.mono (by omega))).trans hB4)
  rw [List.nil_append] at hO4
  have hb4 : w.heap.size ≤ w4.heap.size := bel4.size
  clear hb1 hR1 hN1 hs1 hO2 hB2 hs2 hb3 hR3 hN3 hs3 hB4 w1 w2 w3 hb4
  go_loopw [3] (fun v wr => ∃ z : Nat, z ≤ Z ∧ ∃ p cap, v = .slice p (bs.length + 1 + z) cap ∧ Own wr w.heap.size p cap (bs ++ [128] ++ List.replicate z 0) ∧ Below w.heap.size w wr) (fun v _ => bs.length + 1 + Z - sliceLen v)
  case atStart => exact ⟨0, by omega, p4, cap4, rfl, by rw [List.replicate_zero, List.append_nil]; exact hO4, bel4⟩
  case round =>
    clear hO4 bel4
    obtain ⟨z, hz, q, qc, rfl, hO, hB⟩ := hrel
    have hws : w.heap.size ≤ wr.heap.size := hB.size
    by_cases hlt : z < Z
    · have hne : (((((bs.length : Int) + 1 + (z : Int)) % 64) != 56)) = true := by have := HZ1.out; simp; omega
      go_wp2_with (first
        | ((refine arm_buildSlice (o := ⟨some 17, _, _, _, _, _⟩) rfl 1 _ rfl [.int .u8 0] #[(0, .int .u8 0)] (by simp [Act.eval]) (bs1 0) ?_); intro b3 w3 hb3 hR3 hN3; have hs3 : w3.heap.size = wr.heap.size + 1 := hN3.size)
        | ((refine arm_append (o := ⟨some 18, _, _, _, _, _⟩) rfl _ _ rfl w.heap.size _ _ _ (bs ++ [128] ++ List.replicate z 0) (by simp; omega) rfl (hO.below hN3.below) (some ⟨b3, 0, none⟩) 1 1 [0] rfl rfl (fun h => by cases h) (fun _ => ⟨b3, 0, rfl, hR3.range 0 _ (fun j v hj => by rw [Nat.zero_add]; exact hj)⟩) (by simp; omega) (by omega) ?_); intro p5 cap5 w5 hO5 hB5))
      go_roundw
      case rel => exact ⟨z + 1, by omega, p5, cap5, by rw [show bs.length + 1 + (z + 1) = bs.length + 1 + z + 1 from by omega], by rw [zeros_snoc, ← List.append_assoc]; exact hO5, (hB.trans (hN3.below.mono hws)).trans hB5⟩
      case measure => simp only [sliceLen]; omega
    · obtain rfl : z = Z := by omega
      have hne : (((((bs.length : Int) + 1 + (z : Int)) % 64) != 56)) = false := by have := HZ1.out; simp; omega
      go_wp2_with fail
      have hl8 : (bytes8 (8 * bs.length)).length = 8 := rfl
      go_loopw [6, 3, 5] (fun i v pv wr => ∃ k : Nat, k ≤ 8 ∧ i = .int .i64 k ∧ pv = .int .u64 ((pw k : Nat) : Int) ∧ ∃ p cap, v = .slice p (bs.length + 1 + z + k) cap ∧ Own wr w.heap.size p cap (bs ++ [128] ++ List.replicate z 0 ++ (bytes8 (8 * bs.length)).take k) ∧ Below w.heap.size w wr) (fun i _ _ _ => 8 - (intOf i).toNat)
      case atStart => exact ⟨0, by omega, rfl, rfl, q, qc, rfl, by rw [List.take_zero, List.append_nil]; exact hO, hB⟩
      case round =>
        have HL8 := Lib.hid hl8
        clear hO hB hne hws hlt hz hl8
        obtain ⟨k, hk, rfl, rfl, q2, qc2, rfl, hO, hB⟩ := hrel
        have hws : w.heap.size ≤ wr.heap.size := hB.size
        by_cases hlt : k < 8
        · have hpp := pw_pos k hlt
          have hpw : Hid (pw (k + 1) = pw k / 256) := Lib.hid rfl
          have htk : Hid ((bytes8 (8 * bs.length)).take (k + 1) = (bytes8 (8 * bs.length)).take k ++ [8 * bs.length / pw k % 256]) := Lib.hid (bytes8_get _ k hlt)
          have hpl := pw_le k
          generalize pw k = pk at hpp hpw htk hpl ⊢
          obtain ⟨y0, hy0⟩ : ∃ y0 : Nat, y0 = 8 * bs.length / pk := ⟨_, rfl⟩
          have hy1 : y0 ≤ 7200000 := by rw [hy0]; exact Nat.le_trans (Nat.div_le_self _ _) (by omega)
          have hdv : (8 * (bs.length : Int)) / (pk : Int) = (y0 : Int) := by rw [hy0]; simp
          rw [← hy0] at htk
          clear hy0
          go_wp2_with (first
            | ((refine arm_buildSlice (o := ⟨some 33, _, _, _, _, _⟩) rfl 1 _ rfl [.int .u8 ((y0 % 256 : Nat) : Int)] #[(0, .int .u8 ((y0 % 256 : Nat) : Int))] (by simp [Act.eval]) (bs1 _) ?_); intro b6 w6 hb6 hR6 hN6; have hs6 : w6.heap.size = wr.heap.size + 1 := hN6.size)
            | ((refine arm_append (o := ⟨some 34, _, _, _, _, _⟩) rfl _ _ rfl w.heap.size _ _ _ (bs ++ [128] ++ List.replicate z 0 ++ (bytes8 (8 * bs.length)).take k) (by rw [List.length_append, List.length_take, HL8.out]; simp; omega) rfl (hO.below hN6.below) (some ⟨b6, 0, none⟩) 1 1 [y0 % 256] rfl rfl (fun h => by cases h) (fun _ => ⟨b6, 0, rfl, hR6.range 0 _ (fun j v hj => by rw [Nat.zero_add]; exact hj)⟩) (by rw [List.length_append, List.length_take, HL8.out]; simp; omega) (by omega) ?_); intro p5 cap5 w5 hO5 hB5))
          go_roundw
          case rel => exact ⟨k + 1, by omega, by go_num, by rw [hpw.out]; go_num, p5, cap5, by rw [show bs.length + 1 + z + (k + 1) = bs.length + 1 + z + k + 1 from by omega], by rw [htk.out, ← List.append_assoc]; exact hO5, (hB.trans (hN6.below.mono hws)).trans hB5⟩
          case measure => simp [intOf]; omega
        · obtain rfl : k = 8 := by omega
          have hpad2 : bs ++ [128] ++ List.replicate z 0 ++ (bytes8 (8 * bs.length)).take 8 = padded bs := by
            rw [HPAD.out, List.take_of_length_le (by rw [HL8.out]; omega)]
          have hpl : bs.length + 1 + z + 8 = (padded bs).length := by rw [← hpad2, List.length_append, List.length_take, HL8.out]; simp; omega
          rw [hpad2] at hO
          have HPL := Lib.hid hpl
          clear hpad2 hpl
          go_wp2_with fail
          go_ret
          exact ⟨⟨q2, qc2, by rw [← HPL.out]; rfl, hO⟩, hB⟩
end Go.Proofs.YtebfdbibeecncaaDoor.Sha
