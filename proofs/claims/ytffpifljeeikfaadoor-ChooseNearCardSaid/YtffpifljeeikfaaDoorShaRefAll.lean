import Derived.Test.YtffpifljeeikfaaDoorShaAll
import Derived.Test.YtffpifljeeikfaaDoorMemAll
/-
  The contracts of the document's answers for turned numbers and for xor, over this seat's translation.
-/
namespace Go.Proofs.YtffpifljeeikfaaDoor.Sha
open Go.ChangeShapes Go.WideShapes Go.ChangeAt Go.RowKit Go.Proofs.YtffpifljeeikfaaDoor.Num Go.Proofs.YtffpifljeeikfaaDoor.Mem Go.Proofs.YtffpifljeeikfaaDoor.Bt
set_option linter.unusedVariables false

end Go.Proofs.YtffpifljeeikfaaDoor.Sha

/-
  The contract of the document's answer for one block (block), over this seat's translation: the eight numbers behind it.
-/
namespace Go.Proofs.YtffpifljeeikfaaDoor.Sha
open Go.ChangeShapes Go.WideShapes Go.ChangeAt Go.RowKit Go.Proofs.YtffpifljeeikfaaDoor.Num Go.Proofs.YtffpifljeeikfaaDoor.Mem Go.Proofs.YtffpifljeeikfaaDoor.Bt
set_option linter.unusedVariables false

/-- The zeros of a composite value. -/
def zW : List Value := u32s (List.replicate 64 0)
theorem zW_len : zW.length = 64 := by unfold zW; rw [u32s_length, List.length_replicate]
theorem zW_one : OneCells zW := u32s_one _
theorem slots_rnd2 (a b c d e f g h k w x y1 y2 z u : Nat) (hx : x = bg1 e) (hy : y1 + y2 = chs e f g) (hz : z = bg0 a) (hu : u = mjr a b c) : Slots (rnd ⟨a, b, c, d, e, f, g, h⟩ k w)
    (.int .u32 ((((h : Int) + (x : Int) + ((y1 : Int) + (y2 : Int)) + (k : Int) + (w : Int) + (z : Int)) % 4294967296 + (u : Int)) % 4294967296)) (.int .u32 (a : Int)) (.int .u32 (b : Int)) (.int .u32 (c : Int))
    (.int .u32 (((d : Int) + ((h : Int) + (x : Int) + ((y1 : Int) + (y2 : Int)) + (k : Int) + (w : Int)) % 4294967296) % 4294967296)) (.int .u32 (e : Int)) (.int .u32 (f : Int)) (.int .u32 (g : Int)) := by
  subst hx hz hu
  refine ⟨u32_congr ?_, rfl, rfl, rfl, u32_congr ?_, rfl, rfl, rfl⟩
  · show _ = (((h + bg1 e + chs e f g + k + w + (bg0 a + mjr a b c)) % 4294967296 : Nat) : Int)
    omega
  · show _ = (((d + (h + bg1 e + chs e f g + k + w)) % 4294967296 : Nat) : Int)
    omega
end Go.Proofs.YtffpifljeeikfaaDoor.Sha

/-
  The contract of the document's Padded (the bytes, and what stands behind them), over this seat's translation.
-/
namespace Go.Proofs.YtffpifljeeikfaaDoor.Sha
open Go.ChangeShapes Go.WideShapes Go.ChangeAt Go.RowKit Go.Proofs.YtffpifljeeikfaaDoor.Num Go.Proofs.YtffpifljeeikfaaDoor.Mem Go.Proofs.YtffpifljeeikfaaDoor.Bt
set_option linter.unusedVariables false

/-- The numbers by which the bytes of a number are told. -/
def pw : Nat → Nat
  | 0 => 72057594037927936
  | k + 1 => pw k / 256
theorem pw_pos (k : Nat) (h : k < 8) : 1 ≤ pw k := by
  match k, h with
  | 0, _ => decide
  | 1, _ => decide
  | 2, _ => decide
  | 3, _ => decide
  | 4, _ => decide
  | 5, _ => decide
  | 6, _ => decide
  | 7, _ => decide
theorem pw_le (k : Nat) : pw k ≤ 72057594037927936 := by
  induction k with
  | zero => exact Nat.le_refl _
  | succ k ih => exact Nat.le_trans (Nat.div_le_self _ _) ih
theorem bytes8_get (n k : Nat) (h : k < 8) : (bytes8 n).take (k + 1) = (bytes8 n).take k ++ [n / pw k % 256] := by
  match k, h with
  | 0, _ => show [n / 4294967296 / 16777216 % 256] = [n / 72057594037927936 % 256]; congr 1; omega
  | 1, _ => show [_, n / 4294967296 / 65536 % 256] = [_, n / 281474976710656 % 256]; congr 2; omega
  | 2, _ => show [_, _, n / 4294967296 / 256 % 256] = [_, _, n / 1099511627776 % 256]; congr 3; omega
  | 3, _ => show [_, _, _, n / 4294967296 % 256] = [_, _, _, n / 4294967296 % 256]; rfl
  | 4, _ => show [_, _, _, _, n % 4294967296 / 16777216 % 256] = [_, _, _, _, n / 16777216 % 256]; congr 5; omega
  | 5, _ => show [_, _, _, _, _, n % 4294967296 / 65536 % 256] = [_, _, _, _, _, n / 65536 % 256]; congr 6; omega
  | 6, _ => show [_, _, _, _, _, _, n % 4294967296 / 256 % 256] = [_, _, _, _, _, _, n / 256 % 256]; congr 7; omega
  | 7, _ => show [_, _, _, _, _, _, _, n % 4294967296 % 256] = [_, _, _, _, _, _, _, n / 1 % 256]; congr 8; omega
/-- What Padded leaves. -/
structure PadPost (w : World) (bs : List Nat) (e : Ending) (w' : World) : Prop where
  ex : ∃ p cap, e = .returned (.slice p (padded bs).length cap) ∧ Own w' w.heap.size p cap (padded bs)
  bel : Below w.heap.size w w'
structure PdRel (w : World) (xs : List Nat) (v : Value) (wr : World) : Prop where
  ex : ∃ p cap, v = .slice p xs.length cap ∧ Own wr w.heap.size p cap xs
  bel : Below w.heap.size w wr
theorem zeros_snoc (z : Nat) : List.replicate (z + 1) (0 : Nat) = List.replicate z 0 ++ [0] := List.replicate_succ'

end Go.Proofs.YtffpifljeeikfaaDoor.Sha

/-
  The contract of the document's Of (the digest), over this seat's translation.
-/
namespace Go.Proofs.YtffpifljeeikfaaDoor.Sha
open Go.ChangeShapes Go.WideShapes Go.ChangeAt Go.RowKit Go.Proofs.YtffpifljeeikfaaDoor.Num Go.Proofs.YtffpifljeeikfaaDoor.Mem Go.Proofs.YtffpifljeeikfaaDoor.Bt
set_option linter.unusedVariables false

theorem z24 : Mem.Zero Tryd.prog 22 (u8s (List.replicate 32 0)) := by unfold Mem.Zero; kernel_rfl
theorem sz24 : Sized Tryd.prog 22 32 := ⟨.array 32 5, by kernel_rfl, rfl, by kernel_rfl⟩
def zO : List Value := u8s (List.replicate 32 0)
theorem zO_len : zO.length = 32 := by unfold zO; rw [u8s_length, List.length_replicate]
theorem zO_one : OneCells zO := u8s_one _
theorem padded_len (l : List Nat) : (padded l).length % 64 = 0 ∧ l.length + 9 ≤ (padded l).length ∧ (padded l).length ≤ l.length + 72 := by
  unfold padded; rw [List.length_append, ending_len]; omega
/-- What holds in the loop over the digest's bytes. -/
structure RoRel (w : World) (s : S8) (k R H U : Nat) (wr : World) : Prop where
  rr : Row wr R 22 (u8s (List.replicate 32 0))
  rh : Row wr H 150 (u32s s.list)
  ru : Row wr U 22 (u8s (fillO s k))
  bel : Below w.heap.size w wr

end Go.Proofs.YtffpifljeeikfaaDoor.Sha
