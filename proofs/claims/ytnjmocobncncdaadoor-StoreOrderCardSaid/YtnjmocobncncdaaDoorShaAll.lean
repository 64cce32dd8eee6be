import Derived.WalkKit
import Derived.PlainAid
import Derived.Test.YtnjmocobncncdaaDoorNumAll
import Derived.Test.YtnjmocobncncdaaDoorRows
import Derived.Test.YtnjmocobncncdaaDoorBytAll
import Derived.ProofKit
import Derived.OpenShut
import Derived.Handy
import Derived.Lib.Hide
import Derived.Deep.QuietTactic
import Derived.BigQuiet
import Derived.StillTailTactics
import Derived.Test.YtnjmocobncncdaaDoorMemAll
import Derived.Laws.StructEq
/-
  The digest of bytes, over natural numbers and lists: what the chapter on sha says, as plain functions. No program, no world.
-/
namespace Go.Proofs.YtnjmocobncncdaaDoor.Sha

/-- Turned to the right by k of 32 places. -/
def rotr (k n : Nat) : Nat := n / 2 ^ k + n % 2 ^ k * 2 ^ (32 - k)
def sm0 (x : Nat) : Nat := rotr 7 x ^^^ rotr 18 x ^^^ (x / 8)
def sm1 (x : Nat) : Nat := rotr 17 x ^^^ rotr 19 x ^^^ (x / 1024)
def bg0 (x : Nat) : Nat := rotr 2 x ^^^ rotr 13 x ^^^ rotr 22 x
def bg1 (x : Nat) : Nat := rotr 6 x ^^^ rotr 11 x ^^^ rotr 25 x
def chs (x y z : Nat) : Nat := (x &&& y) ||| ((4294967295 - x) &&& z)
def mjr (x y z : Nat) : Nat := (x &&& y) ||| (x &&& z) ||| (y &&& z)
/-- Four bytes, the highest first. -/
def be4 (a b c d : Nat) : Nat := a * 16777216 + b * 65536 + c * 256 + d
def bytes4 (x : Nat) : List Nat := [x / 16777216 % 256, x / 65536 % 256, x / 256 % 256, x % 256]

def wordAt (l : List Nat) (t : Nat) : Nat := be4 (l.getD (4 * t) 0) (l.getD (4 * t + 1) 0) (l.getD (4 * t + 2) 0) (l.getD (4 * t + 3) 0)
/-- The first k numbers of a block. -/
def wordsOf (l : List Nat) (k : Nat) : List Nat := (List.range k).map (wordAt l)
/-- The next number of those that are made. -/
def nextW (w : List Nat) : Nat := (sm1 (w.getD (w.length - 2) 0) + w.getD (w.length - 7) 0 + sm0 (w.getD (w.length - 15) 0) + w.getD (w.length - 16) 0) % 4294967296
def sch : Nat → List Nat → List Nat
  | 0, w => w
  | n + 1, w => sch n w ++ [nextW (sch n w)]
def sched (l : List Nat) : List Nat := sch 48 (wordsOf l 16)

structure S8 where
  a : Nat
  b : Nat
  c : Nat
  d : Nat
  e : Nat
  f : Nat
  g : Nat
  h : Nat
def S8.list (s : S8) : List Nat := [s.a, s.b, s.c, s.d, s.e, s.f, s.g, s.h]
def T1 (s : S8) (k w : Nat) : Nat := s.h + bg1 s.e + chs s.e s.f s.g + k + w
def T2 (s : S8) : Nat := bg0 s.a + mjr s.a s.b s.c
def rnd (s : S8) (k w : Nat) : S8 := ⟨(T1 s k w + T2 s) % 4294967296, s.a, s.b, s.c, (s.d + T1 s k w) % 4294967296, s.e, s.f, s.g⟩
def rnds (ks ws : List Nat) (s : S8) : Nat → S8
  | 0 => s
  | t + 1 => rnd (rnds ks ws s t) (ks.getD t 0) (ws.getD t 0)
/-- The sixty-four numbers. -/
def ks : List Nat := [1116352408, 1899447441, 3049323471, 3921009573, 961987163, 1508970993, 2453635748, 2870763221, 3624381080, 310598401, 607225278, 1426881987, 1925078388, 2162078206, 2614888103, 3248222580, 3835390401, 4022224774, 264347078, 604807628, 770255983, 1249150122, 1555081692, 1996064986, 2554220882, 2821834349, 2952996808, 3210313671, 3336571891, 3584528711, 113926993, 338241895, 666307205, 773529912, 1294757372, 1396182291, 1695183700, 1986661051, 2177026350, 2456956037, 2730485921, 2820302411, 3259730800, 3345764771, 3516065817, 3600352804, 4094571909, 275423344, 430227734, 506948616, 659060556, 883997877, 958139571, 1322822218, 1537002063, 1747873779, 1955562222, 2024104815, 2227730452, 2361852424, 2428436474, 2756734187, 3204031479, 3329325298]
def plus (s r : S8) : S8 := ⟨(s.a + r.a) % 4294967296, (s.b + r.b) % 4294967296, (s.c + r.c) % 4294967296, (s.d + r.d) % 4294967296, (s.e + r.e) % 4294967296, (s.f + r.f) % 4294967296, (s.g + r.g) % 4294967296, (s.h + r.h) % 4294967296⟩
/-- The eight numbers behind one block more. -/
def comp (s : S8) (l : List Nat) : S8 := plus s (rnds ks (sched l) s 64)
def H0 : S8 := ⟨1779033703, 3144134277, 1013904242, 2773480762, 1359893119, 2600822924, 528734635, 1541459225⟩
/-- n whole blocks, one behind the other. -/
def fold64 : Nat → S8 → List Nat → S8
  | 0, s, _ => s
  | n + 1, s, l => fold64 n (comp s (l.take 64)) (l.drop 64)
/-- The eight numbers behind the whole blocks of bytes; the bytes behind them. -/
def stOf (l : List Nat) : S8 := fold64 (l.length / 64) H0 l
def leftOf (l : List Nat) : List Nat := l.drop (64 * (l.length / 64))
/-- Eight bytes, the highest first. -/
def bytes8 (n : Nat) : List Nat := bytes4 (n / 4294967296) ++ bytes4 (n % 4294967296)
/-- What stands behind n bytes. -/
def ending (n : Nat) : List Nat := 128 :: (List.replicate ((119 - n % 64) % 64) 0 ++ bytes8 (8 * n))
def padded (l : List Nat) : List Nat := l ++ ending l.length
def outOf (s : S8) : List Nat := s.list.flatMap bytes4
/-- The digest. -/
def digest (l : List Nat) : List Nat := outOf (stOf (padded l))
end Go.Proofs.YtnjmocobncncdaaDoor.Sha

/-
  Plain facts for the digest's numbers: bits, turns, bounds. No program, no world.
-/
namespace Go.Proofs.YtnjmocobncncdaaDoor.Sha
open Go.RowKit Go.Proofs.YtnjmocobncncdaaDoor.Num
set_option linter.unusedVariables false

theorem turn_rotr (n k : Nat) (hk : k ≤ 31) : rotN k (n : Int) = ((rotr k n : Nat) : Int) := rotN_closed k (by omega) n
theorem rotr_lt (n k : Nat) (hk : k ≤ 32) (hn : n < 4294967296) : rotr k n < 4294967296 := by
  have h := rotN_bd k (n : Int) (by omega) (by omega)
  rw [rotN_closed k hk n] at h
  unfold rotr
  omega
theorem xor_lt {a b : Nat} (ha : a < 4294967296) (hb : b < 4294967296) : a ^^^ b < 4294967296 := Nat.xor_lt_two_pow (n := 32) ha hb
theorem or_lt {a b : Nat} (ha : a < 4294967296) (hb : b < 4294967296) : a ||| b < 4294967296 := Nat.or_lt_two_pow (n := 32) ha hb
theorem and_lt {a b : Nat} (ha : a < 4294967296) : a &&& b < 4294967296 := Nat.lt_of_le_of_lt Nat.and_le_left ha
theorem bg0_lt {x : Nat} (h : x < 4294967296) : bg0 x < 4294967296 := xor_lt (xor_lt (rotr_lt x 2 (by omega) h) (rotr_lt x 13 (by omega) h)) (rotr_lt x 22 (by omega) h)
theorem bg1_lt {x : Nat} (h : x < 4294967296) : bg1 x < 4294967296 := xor_lt (xor_lt (rotr_lt x 6 (by omega) h) (rotr_lt x 11 (by omega) h)) (rotr_lt x 25 (by omega) h)
theorem chs_lt {x y z : Nat} (hx : x < 4294967296) : chs x y z < 4294967296 := or_lt (and_lt hx) (and_lt (by omega))
theorem mjr_lt {x y z : Nat} (hx : x < 4294967296) (hy : y < 4294967296) : mjr x y z < 4294967296 := or_lt (or_lt (and_lt hx) (and_lt hx)) (and_lt hy)
theorem not_plain (n : Nat) (h : n < 4294967296) : bits BinOp.xor IntKind.u32 4294967295 (n : Int) = ((4294967295 - n : Nat) : Int) := by
  have e := u32_xor_nat 4294967295 n (by omega) h
  rw [show ((4294967295 : Nat) : Int) = 4294967295 from rfl] at e
  rw [e, show (4294967295 : Nat) = 2 ^ 32 - 1 from rfl]
  congr 1
  have h1 : n = (BitVec.ofNat 32 n).toNat := by simp; omega
  have h2 : (~~~ (BitVec.ofNat 32 n)).toNat = 2 ^ 32 - 1 - (BitVec.ofNat 32 n).toNat := BitVec.toNat_not
  have h3 : (BitVec.allOnes 32 ^^^ BitVec.ofNat 32 n) = ~~~ (BitVec.ofNat 32 n) := BitVec.allOnes_xor
  have h4 : (BitVec.allOnes 32 ^^^ BitVec.ofNat 32 n).toNat = (2 ^ 32 - 1) ^^^ (BitVec.ofNat 32 n).toNat := by rw [BitVec.toNat_xor, BitVec.toNat_allOnes]
  rw [h3, h2, ← h1] at h4
  exact h4.symm
/-- Four bytes put together by shifts and 'or'. -/
theorem or_be (hi lo k : Nat) (h : lo < 2 ^ k) : (hi * 2 ^ k) ||| lo = hi * 2 ^ k + lo := by
  rw [Nat.mul_comm, ← Nat.two_pow_add_eq_or_of_lt h]
theorem be4_or (a b c d : Nat) (ha : a < 256) (hb : b < 256) (hc : c < 256) (hd : d < 256) : (((a * 16777216) ||| (b * 65536)) ||| (c * 256)) ||| d = be4 a b c d := by
  have e1 : (a * 16777216) ||| (b * 65536) = (a * 256 + b) * 65536 := by
    rw [show a * 16777216 = a * 2 ^ 24 from rfl, or_be a (b * 65536) 24 (by omega)]; omega
  have e2 : ((a * 256 + b) * 65536) ||| (c * 256) = ((a * 256 + b) * 256 + c) * 256 := by
    rw [show (a * 256 + b) * 65536 = (a * 256 + b) * 2 ^ 16 from rfl, or_be _ (c * 256) 16 (by omega)]; omega
  have e3 : (((a * 256 + b) * 256 + c) * 256) ||| d = ((a * 256 + b) * 256 + c) * 256 + d := by
    rw [show ((a * 256 + b) * 256 + c) * 256 = ((a * 256 + b) * 256 + c) * 2 ^ 8 from rfl, or_be _ d 8 (by omega)]
  rw [e1, e2, e3]; unfold be4; omega
theorem be4_lt {a b c d : Nat} (ha : a < 256) (hb : b < 256) (hc : c < 256) (hd : d < 256) : be4 a b c d < 4294967296 := by unfold be4; omega
end Go.Proofs.YtnjmocobncncdaaDoor.Sha

/-
  The contracts of the small functions of package sha, over this seat's translation.
-/
namespace Go.Proofs.YtnjmocobncncdaaDoor.Sha
open Go.ChangeShapes Go.WideShapes Go.ChangeAt Go.RowKit Go.Proofs.YtnjmocobncncdaaDoor.Num Go.Proofs.YtnjmocobncncdaaDoor.Mem Go.Proofs.YtnjmocobncncdaaDoor.Bt
set_option linter.unusedVariables false

theorem ret_u32 {a : Int} {n : Nat} (h : a = (n : Int)) : Ending.returned (.int .u32 a) = .returned (.int .u32 ((n : Nat) : Int)) := by rw [h]

theorem turn_any (n : Nat) (c : Int) (w : World) (hn : n < 4294967296) (h2 : 0 ≤ c) (h3 : c ≤ 31) :
    Calls Tryd.prog 85 #[.int .u32 (n : Int), .int .i64 c] w fun e w' => e = .returned (.int .u32 ((rotr c.toNat n : Nat) : Int)) ∧ w = w' := by
  obtain ⟨k, hk⟩ : ∃ k : Nat, (k : Int) = c % 32 := ⟨(c % 32).toNat, by omega⟩
  have hk31 : k ≤ 31 := by omega
  have hr : bits BinOp.and IntKind.u32 c 31 = (k : Int) := by have := low5 c; rw [Int.emod_eq_of_lt h2 (by omega)] at this; rw [this, hk]
  have e : c.toNat = k := by omega
  have HK := Lib.hid e; clear e hk
  go_enter Tryd.func85, Tryd.ntmps85
  go_wp2
  go_ret
  refine ⟨ret_u32 ?_, rfl⟩
  rw [HK.out, ← turn_rotr n k hk31]
  rw [← turn_plain (n : Int) k hk31 (by omega) (by omega)]
theorem split_any (n : Nat) (w : World) (hn : n < 18446744073709551616) :
    Calls Tryd.prog 76 #[.int .u64 (n : Int)] w fun e w' => e = .returned (.tuple #[.int .u32 ((n / 4294967296 : Nat) : Int), .int .u32 ((n % 4294967296 : Nat) : Int)]) ∧ w = w' := by
  have h1 : (n : Int) ≤ 18446744073709551615 := by omega
  go_enter Tryd.func76, Tryd.ntmps76
  go_wp2
  go_ret2
  exact ⟨by congr 2, rfl⟩
theorem xor3_plain (a b c : Nat) (ha : a < 4294967296) (hb : b < 4294967296) (hc : c < 4294967296) : bits BinOp.xor IntKind.u32 (bits BinOp.xor IntKind.u32 (a : Int) (b : Int)) (c : Int) = ((a ^^^ b ^^^ c : Nat) : Int) := by
  rw [u32_xor_nat a b ha hb, u32_xor_nat _ c (xor_lt ha hb) hc]
theorem big1_any (n : Nat) (w : World) (hn : n < 4294967296) :
    Calls Tryd.prog 72 #[.int .u32 (n : Int)] w fun e w' => e = .returned (.int .u32 ((bg1 n : Nat) : Int)) ∧ w = w' := by
  go_enter Tryd.func72, Tryd.ntmps72
  go_wp2_with (refine (turn_any n _ _ hn (by omega) (by omega)).mono ?_; rintro e w' ⟨rfl, rfl⟩)
  go_ret
  exact ⟨ret_u32 (xor3_plain _ _ _ (rotr_lt n 6 (by omega) hn) (rotr_lt n 11 (by omega) hn) (rotr_lt n 25 (by omega) hn)), rfl⟩
theorem big0_any (n : Nat) (w : World) (hn : n < 4294967296) :
    Calls Tryd.prog 74 #[.int .u32 (n : Int)] w fun e w' => e = .returned (.int .u32 ((bg0 n : Nat) : Int)) ∧ w = w' := by
  go_enter Tryd.func74, Tryd.ntmps74
  go_wp2_with (refine (turn_any n _ _ hn (by omega) (by omega)).mono ?_; rintro e w' ⟨rfl, rfl⟩)
  go_ret
  exact ⟨ret_u32 (xor3_plain _ _ _ (rotr_lt n 2 (by omega) hn) (rotr_lt n 13 (by omega) hn) (rotr_lt n 22 (by omega) hn)), rfl⟩
theorem small0_any (n : Nat) (w : World) (hn : n < 4294967296) :
    Calls Tryd.prog 84 #[.int .u32 (n : Int)] w fun e w' => e = .returned (.int .u32 ((sm0 n : Nat) : Int)) ∧ w = w' := by
  go_enter Tryd.func84, Tryd.ntmps84
  go_wp2_with (refine (turn_any n _ _ hn (by omega) (by omega)).mono ?_; rintro e w' ⟨rfl, rfl⟩)
  go_ret
  exact ⟨ret_u32 (xor3_plain _ _ (n / 8) (rotr_lt n 7 (by omega) hn) (rotr_lt n 18 (by omega) hn) (by omega)), rfl⟩
theorem small1_any (n : Nat) (w : World) (hn : n < 4294967296) :
    Calls Tryd.prog 83 #[.int .u32 (n : Int)] w fun e w' => e = .returned (.int .u32 ((sm1 n : Nat) : Int)) ∧ w = w' := by
  go_enter Tryd.func83, Tryd.ntmps83
  go_wp2_with (refine (turn_any n _ _ hn (by omega) (by omega)).mono ?_; rintro e w' ⟨rfl, rfl⟩)
  go_ret
  exact ⟨ret_u32 (xor3_plain _ _ (n / 1024) (rotr_lt n 17 (by omega) hn) (rotr_lt n 19 (by omega) hn) (by omega)), rfl⟩
theorem choice_any (x y z : Nat) (w : World) (hx : x < 4294967296) (hy : y < 4294967296) (hz : z < 4294967296) :
    Calls Tryd.prog 73 #[.int .u32 (x : Int), .int .u32 (y : Int), .int .u32 (z : Int)] w fun e w' => e = .returned (.int .u32 ((chs x y z : Nat) : Int)) ∧ w = w' := by
  go_enter Tryd.func73, Tryd.ntmps73
  go_wp2
  go_ret
  refine ⟨ret_u32 ?_, rfl⟩
  rw [show IntKind.u32.max = 4294967295 from by decide, not_plain x hx, u32_and_nat x y hx hy, u32_and_nat _ z (by omega) hz, u32_or_nat _ _ (and_lt hx) (and_lt (by omega))]
  rfl
theorem majority_any (x y z : Nat) (w : World) (hx : x < 4294967296) (hy : y < 4294967296) (hz : z < 4294967296) :
    Calls Tryd.prog 75 #[.int .u32 (x : Int), .int .u32 (y : Int), .int .u32 (z : Int)] w fun e w' => e = .returned (.int .u32 ((mjr x y z : Nat) : Int)) ∧ w = w' := by
  go_enter Tryd.func75, Tryd.ntmps75
  go_wp2
  go_ret
  refine ⟨ret_u32 ?_, rfl⟩
  rw [u32_and_nat x y hx hy, u32_and_nat x z hx hz, u32_and_nat y z hy hz, u32_or_nat _ _ (and_lt hx) (and_lt hx), u32_or_nat _ _ (or_lt (and_lt hx) (and_lt hx)) (and_lt hy)]
  rfl
theorem word_any (b off len cap x0 x1 x2 x3 : Nat) (w : World) (hlen : 4 ≤ len) (hl : len ≤ 1000) (c0 : w.cell? ⟨b, off, none⟩ = some (.int .u8 (x0 : Int))) (c1 : w.cell? ⟨b, off + 1, none⟩ = some (.int .u8 (x1 : Int)))
    (c2 : w.cell? ⟨b, off + 2, none⟩ = some (.int .u8 (x2 : Int))) (c3 : w.cell? ⟨b, off + 3, none⟩ = some (.int .u8 (x3 : Int))) (h0 : x0 < 256) (h1 : x1 < 256) (h2 : x2 < 256) (h3 : x3 < 256) :
    Calls Tryd.prog 82 #[.slice (some ⟨b, off, none⟩) len cap] w fun e w' => e = .returned (.int .u32 ((be4 x0 x1 x2 x3 : Nat) : Int)) ∧ Below w.heap.size w w' := by
  have i0 : (0 : Int) < (len : Int) := by omega
  have i1 : (1 : Int) < (len : Int) := by omega
  have i2 : (2 : Int) < (len : Int) := by omega
  have i3 : (3 : Int) < (len : Int) := by omega
  go_enter Tryd.func82, Tryd.ntmps82
  go_wp2
  go_quiet (fail)
  go_wp2
  go_ret
  refine ⟨ret_u32 ?_, below_drewN _ _ _⟩
  have e0 : ((x0 : Int) * 16777216) = ((x0 * 16777216 : Nat) : Int) := by omega
  have e1 : ((x1 : Int) * 65536) = ((x1 * 65536 : Nat) : Int) := by omega
  have e2 : ((x2 : Int) * 256) = ((x2 * 256 : Nat) : Int) := by omega
  rw [e0, e1, e2, u32_or_nat _ _ (by omega) (by omega), u32_or_nat _ _ (or_lt (by omega) (by omega)) (by omega), u32_or_nat _ _ (or_lt (or_lt (by omega) (by omega)) (by omega)) (by omega), be4_or x0 x1 x2 x3 h0 h1 h2 h3]
theorem lay4 (cs : List Value) (off : Nat) (a b c d : Value) (h : off + 4 ≤ cs.length) : ((((cs.set off a).set (off + 1) b).set (off + 2) c).set (off + 3) d) = lay cs off [a, b, c, d] := by
  induction off generalizing cs with
  | zero =>
    match cs, h with
    | v0 :: v1 :: v2 :: v3 :: r, _ => rfl
  | succ off ih =>
    cases cs with
    | nil => simp at h
    | cons v r =>
      have e := ih r (by simp at h; omega)
      simp only [lay, List.take_succ_cons, List.cons_append, List.length_cons, List.length_nil] at e ⊢
      rw [show off + 1 + (0 + 1 + 1 + 1 + 1) = (off + (0 + 1 + 1 + 1 + 1)) + 1 from by omega, List.drop_succ_cons, ← e]
      simp only [show off + 1 + 1 = (off + 1) + 1 from rfl, show off + 1 + 2 = (off + 2) + 1 from rfl, show off + 1 + 3 = (off + 3) + 1 from rfl, List.set_cons_succ]
theorem u8s_bytes4 (x : Nat) (hx : x < 4294967296) : u8s (bytes4 x) = [.int .u8 ((x : Int) / 16777216), .int .u8 ((x : Int) / 65536 % 256), .int .u8 ((x : Int) / 256 % 256), .int .u8 ((x : Int) % 256)] := by
  have e : ((x / 16777216 % 256 : Nat) : Int) = (x : Int) / 16777216 := by omega
  show [Value.int .u8 ((x / 16777216 % 256 : Nat) : Int), .int .u8 ((x / 65536 % 256 : Nat) : Int), .int .u8 ((x / 256 % 256 : Nat) : Int), .int .u8 ((x % 256 : Nat) : Int)] = _
  rw [e]
  rfl
theorem put_any (b off len cap x : Nat) (t : TypeId) (cs : List Value) (w : World) (hlen : 4 ≤ len) (hl : len ≤ 1000) (hx : x < 4294967296) (hr : Row w b t cs) (hf : off + 4 ≤ cs.length) :
    Calls Tryd.prog 58 #[.slice (some ⟨b, off, none⟩) len cap, .int .u32 (x : Int)] w fun e w' => e = .returned (.tuple #[]) ∧ Row w' b t (lay cs off (u8s (bytes4 x))) ∧ Only b w w' ∧ Hid (w'.heap.size = w.heap.size) := by
  have i0 : (0 : Int) < (len : Int) := by omega
  have i1 : (1 : Int) < (len : Int) := by omega
  have i2 : (2 : Int) < (len : Int) := by omega
  have i3 : (3 : Int) < (len : Int) := by omega
  obtain ⟨v0, e0⟩ : ∃ v, cs[off]? = some v := ⟨_, List.getElem?_eq_getElem (by omega)⟩
  obtain ⟨v1, e1⟩ : ∃ v, cs[off + 1]? = some v := ⟨_, List.getElem?_eq_getElem (by omega)⟩
  obtain ⟨v2, e2⟩ : ∃ v, cs[off + 2]? = some v := ⟨_, List.getElem?_eq_getElem (by omega)⟩
  obtain ⟨v3, e3⟩ : ∃ v, cs[off + 3]? = some v := ⟨_, List.getElem?_eq_getElem (by omega)⟩
  have c0 := hr.cell e0
  have c1 := hr.cell e1
  have c2 := hr.cell e2
  have c3 := hr.cell e3
  have f0 := hr.frozen off
  have f1 := hr.frozen (off + 1)
  have f2 := hr.frozen (off + 2)
  have f3 := hr.frozen (off + 3)
  clear e0 e1 e2 e3
  go_enter Tryd.func58, Tryd.ntmps58
  go_wp2
  go_end0
  refine ⟨rfl, ((((hr.set _).set _).set _).set _).congr ?_, (((Only.setCell b _ w _).trans (Only.setCell b _ _ _)).trans (Only.setCell b _ _ _)).trans (Only.setCell b _ _ _), ?_⟩
  · rw [lay4 cs off _ _ _ _ hf, u8s_bytes4 x hx]
  · show _ = _
    simp [World.setCell]
end Go.Proofs.YtnjmocobncncdaaDoor.Sha

/-
  The contracts of sha's two functions on one block: spread (the sixty-four numbers of a block) and mixed (the eight numbers behind it), over this seat's translation.
-/
namespace Go.Proofs.YtnjmocobncncdaaDoor.Sha
open Go.ChangeShapes Go.WideShapes Go.ChangeAt Go.RowKit Go.Proofs.YtnjmocobncncdaaDoor.Num Go.Proofs.YtnjmocobncncdaaDoor.Mem Go.Proofs.YtnjmocobncncdaaDoor.Bt
set_option linter.unusedVariables false

theorem z47 : Mem.Zero Tryd.prog 136 (u32s (List.replicate 64 0)) := by unfold Mem.Zero; kernel_rfl
theorem sz47 : Sized Tryd.prog 136 64 := ⟨.array 64 30, by kernel_rfl, rfl, by kernel_rfl⟩
theorem sz42 : Sized Tryd.prog 120 64 := ⟨.array 64 5, by kernel_rfl, rfl, by kernel_rfl⟩
theorem sz40 : Sized Tryd.prog 119 8 := ⟨.array 8 30, by kernel_rfl, rfl, by kernel_rfl⟩
theorem z40 : Mem.Zero Tryd.prog 119 (u32s (List.replicate 8 0)) := by unfold Mem.Zero; kernel_rfl

/-- The numbers so far, and zeros. -/
def fillW (w : List Nat) : List Nat := w ++ List.replicate (64 - w.length) 0
theorem set_fill (w : List Nat) (x : Nat) (h : w.length < 64) : (u32s (fillW w)).set w.length (.int .u32 (x : Int)) = u32s (fillW (w ++ [x])) := by
  unfold fillW
  rw [show 64 - w.length = (63 - w.length) + 1 from by omega, List.replicate_succ, List.length_append, List.length_singleton, show 64 - (w.length + 1) = 63 - w.length from by omega]
  simp [u32s]
theorem fill_get (w : List Nat) (i : Nat) (h : i < w.length) : (u32s (fillW w))[i]? = some (.int .u32 ((w.getD i 0 : Nat) : Int)) := by
  unfold fillW
  rw [u32s_append, List.getElem?_append_left (by rw [u32s_length]; exact h), u32s_get h]
theorem fill_len (w : List Nat) (h : w.length ≤ 64) : (fillW w).length = 64 := by unfold fillW; simp; omega
theorem wordsOf_succ (l : List Nat) (k : Nat) : wordsOf l (k + 1) = wordsOf l k ++ [wordAt l k] := by simp [wordsOf, List.range_succ]
theorem wordsOf_len (l : List Nat) (k : Nat) : (wordsOf l k).length = k := by simp [wordsOf]
theorem sch_len (n : Nat) (w : List Nat) : (sch n w).length = w.length + n := by
  induction n with
  | zero => rfl
  | succ n ih => simp [sch, ih]; omega
theorem wordsOf_lt {l : List Nat} (h : AllLt 256 l) (k : Nat) : AllLt 4294967296 (wordsOf l k) := by
  intro x hx
  simp only [wordsOf, List.mem_map] at hx
  obtain ⟨t, _, rfl⟩ := hx
  exact be4_lt (getD_lt h (by omega) _) (getD_lt h (by omega) _) (getD_lt h (by omega) _) (getD_lt h (by omega) _)
theorem sch_lt (n : Nat) {w : List Nat} (h : AllLt 4294967296 w) : AllLt 4294967296 (sch n w) := by
  induction n with
  | zero => exact h
  | succ n ih =>
    intro x hx
    simp only [sch, List.mem_append, List.mem_singleton] at hx
    rcases hx with hx | rfl
    · exact ih x hx
    · exact Nat.mod_lt _ (by omega)

/-- What holds in spread's two loops: its own block and the block of numbers. -/
structure SpRel (w : World) (l : List Nat) (B1 B2 B3 : Nat) (ws : List Nat) (wr : World) : Prop where
  r1 : Row wr B1 120 (u8s l)
  r2 : Row wr B2 136 (u32s (List.replicate 64 0))
  r3 : Row wr B3 136 (u32s (fillW ws))
  bel : Below w.heap.size w wr
theorem SpRel.step {w : World} {l : List Nat} {B1 B2 B3 : Nat} {ws : List Nat} {wr wx : World} (h : SpRel w l B1 B2 B3 ws wr) (hb : Below wr.heap.size wr wx) (h1 : B1 ≠ B3) (h2 : B2 ≠ B3) (h3 : w.heap.size ≤ B3) (hl : ws.length < 64) (x : Nat) (i : Nat) (hi : i = ws.length) :
    SpRel w l B1 B2 B3 (ws ++ [x]) (wx.setCell ⟨B3, i, none⟩ (.int .u32 (x : Int))) := by
  have hs : w.heap.size ≤ wr.heap.size := h.bel.size
  refine ⟨((h.r1.old hb).only (Only.setCell B3 _ _ _) h1), (h.r2.old hb).only (Only.setCell B3 _ _ _) h2, ?_, below_only (below_step h.bel hs hb) (Only.setCell B3 _ _ _) h3 (Nat.le_trans hs hb.size)⟩
  subst hi
  exact ((h.r3.old hb).set _).congr (set_fill ws x hl)
set_option maxRecDepth 100000 in
theorem spread_any (l : List Nat) (w : World) (hl : l.length = 64) (hb : AllLt 256 l) :
    Calls Tryd.prog 71 #[.agg (u8s l).toArray] w fun e w' => e = .returned (.agg (u32s (sched l)).toArray) ∧ Below w.heap.size w w' := by
  have HL := Lib.hid hl; clear hl
  go_enter Tryd.func71, Tryd.ntmps71
  go_wp2_with (first
    | ((with_reducible refine arm_box (o := ⟨some 1, _, _, _, _, _⟩) rfl _ _ rfl (u8s l) rfl ?_); intro B1 w1 hB1 hR1 hN1)
    | ((with_reducible refine arm_alloc (o := ⟨some 2, _, _, _, _, _⟩) rfl _ rfl _ z47 ?_); intro B2 w2 hB2 hR2 hN2)
    | ((with_reducible refine arm_alloc (o := ⟨some 3, _, _, _, _, _⟩) rfl _ rfl _ z47 ?_); intro B3 w3 hB3 hR3 hN3))
  have hb1 : B1 = w.heap.size := hB1.out
  have hb2 : B2 = w.heap.size + 1 := by have := hB2.out; have := hN1.size; omega
  have hb3 : B3 = w.heap.size + 2 := by have := hB3.out; have := hN1.size; have := hN2.size; omega
  have n13 : B1 ≠ B3 := by omega
  have n23 : B2 ≠ B3 := by omega
  have l3 : w.heap.size ≤ B3 := by omega
  have n12 : w.heap.size ≤ B2 := by omega
  have h0 : SpRel w l B1 B2 B3 (wordsOf l 0) w3 := ⟨(hR1.old hN2.below).old hN3.below, hR2.old hN3.below, hR3, below_step (below_step hN1.below (by rw [hN1.size]; omega) hN2.below) (by rw [hN2.size, hN1.size]; omega) hN3.below⟩
  clear hb1 hb2 hb3 hB1 hB2 hB3 hR1 hR2 hR3 hN1 hN2 hN3 w1 w2
  have L2 := Lib.hid n12; clear n12
  have N13 := Lib.hid n13; clear n13
  have N23 := Lib.hid n23; clear n23
  go_loopw [6] (fun i wr => ∃ k : Nat, k ≤ 16 ∧ i = .int .i64 k ∧ SpRel w l B1 B2 B3 (wordsOf l k) wr) (fun i _ => 16 - (intOf i).toNat)
  case atStart => exact ⟨0, by omega, rfl, h0⟩
  case round =>
    obtain ⟨k, hk, rfl, hS⟩ := hrel
    clear h0
    by_cases hlt : k < 16
    · have hlen := HL.out
      have c0 := hS.r1.cell (u8s_get (l := l) (i := 4 * k) (by omega))
      have c1 := hS.r1.cell (u8s_get (l := l) (i := 4 * k + 1) (by omega))
      have c2 := hS.r1.cell (u8s_get (l := l) (i := 4 * k + 2) (by omega))
      have c3 := hS.r1.cell (u8s_get (l := l) (i := 4 * k + 3) (by omega))
      clear hlen
      have C0 := Lib.hid c0; have C1 := Lib.hid c1; have C2 := Lib.hid c2; have C3 := Lib.hid c3; clear c0 c1 c2 c3
      obtain ⟨old, hold⟩ : ∃ v, (u32s (fillW (wordsOf l k)))[k]? = some v := ⟨_, List.getElem?_eq_getElem (by rw [u32s_length, fill_len _ (by rw [wordsOf_len]; omega)]; omega)⟩
      have HO := Lib.hid hold; clear hold
      go_wp2_with (first
        | ((with_reducible refine arm_sliceLow (o := ⟨some 12, _, _, _, _, _⟩) rfl _ _ _ rfl 64 5 (by kernel_rfl) (by kernel_rfl) B1 0 rfl .i64 _ rfl (4 * k) (by omega) (by omega) ?_))
        | (go_at_call 82; (refine (word_any _ _ _ _ _ _ _ _ _ (by omega) (by omega) C0.out C1.out C2.out C3.out (getD_lt hb (by omega) _) (getD_lt hb (by omega) _) (getD_lt hb (by omega) _) (getD_lt hb (by omega) _)).mono ?_); rintro e w' ⟨rfl, hbw⟩; have hcc := (hS.r3.old hbw).cell HO.out; have hff := (hS.r3.old hbw).frozen k))
      go_roundw
      case rel => exact ⟨k + 1, by omega, by go_num, by rw [wordsOf_succ]; exact hS.step hbw N13.out N23.out l3 (by rw [wordsOf_len]; omega) _ _ (wordsOf_len l k).symm⟩
      case measure => simp [intOf]; omega
    · obtain rfl : k = 16 := by omega
      have h0 := hS
      clear hS hlt hk
      rw [show ((16 : Nat) : Int) = 16 from rfl]
      go_wp2_with fail
      go_loopw [5] (fun i wr => ∃ k : Nat, 16 ≤ k ∧ k ≤ 64 ∧ i = .int .i64 k ∧ SpRel w l B1 B2 B3 (sch (k - 16) (wordsOf l 16)) wr) (fun i _ => 64 - (intOf i).toNat)
      case atStart => exact ⟨16, by omega, by omega, rfl, h0⟩
      case round =>
        obtain ⟨k, hk0, hk, rfl, hS⟩ := hrel
        clear h0
        have hln : (sch (k - 16) (wordsOf l 16)).length = k := by rw [sch_len, wordsOf_len]; omega
        have hal : AllLt 4294967296 (sch (k - 16) (wordsOf l 16)) := sch_lt _ (wordsOf_lt hb 16)
        by_cases hlt : k < 64
        · have hsw : sch (k + 1 - 16) (wordsOf l 16) = sch (k - 16) (wordsOf l 16) ++ [nextW (sch (k - 16) (wordsOf l 16))] := by
            rw [show k + 1 - 16 = (k - 16) + 1 from by omega]; rfl
          generalize sch (k - 16) (wordsOf l 16) = ws at hS hln hal hsw
          have c2 := hS.r3.cell (fill_get ws (k - 2) (by omega))
          have c7 := hS.r3.cell (fill_get ws (k - 7) (by omega))
          have c15 := hS.r3.cell (fill_get ws (k - 15) (by omega))
          have c16 := hS.r3.cell (fill_get ws (k - 16) (by omega))
          obtain ⟨old, hold⟩ : ∃ v, (u32s (fillW ws))[k]? = some v := ⟨_, List.getElem?_eq_getElem (by rw [u32s_length, fill_len _ (by omega)]; omega)⟩
          have hcc := hS.r3.cell hold
          have hff := hS.r3.frozen k
          have b2 := getD_lt hal (by omega) (k - 2)
          have b7 := getD_lt hal (by omega) (k - 7)
          have b15 := getD_lt hal (by omega) (k - 15)
          have b16 := getD_lt hal (by omega) (k - 16)
          have hnx : Hid (nextW ws = (sm1 (ws.getD (k - 2) 0) + ws.getD (k - 7) 0 + sm0 (ws.getD (k - 15) 0) + ws.getD (k - 16) 0) % 4294967296) := by
            unfold nextW; rw [hln]; exact rfl
          have HN := Lib.hid hln; have HW := Lib.hid hsw; clear hln hsw hold
          generalize hx2 : ws.getD (k - 2) 0 = x2 at c2 b2 hnx
          generalize hx7 : ws.getD (k - 7) 0 = x7 at c7 b7 hnx
          generalize hx15 : ws.getD (k - 15) 0 = x15 at c15 b15 hnx
          generalize hx16 : ws.getD (k - 16) 0 = x16 at c16 b16 hnx
          clear hx2 hx7 hx15 hx16
          go_wp2_with fail
          have hw2 : IntKind.i64.wrap ((k : Int) - 2) = ((k - 2 : Nat) : Int) := by rw [IntWalk.i64_in _ (by omega)]; omega
          have hw7 : IntKind.i64.wrap ((k : Int) - 7) = ((k - 7 : Nat) : Int) := by rw [IntWalk.i64_in _ (by omega)]; omega
          have hw15 : IntKind.i64.wrap ((k : Int) - 15) = ((k - 15 : Nat) : Int) := by rw [IntWalk.i64_in _ (by omega)]; omega
          have hw16 : IntKind.i64.wrap ((k : Int) - 16) = ((k - 16 : Nat) : Int) := by rw [IntWalk.i64_in _ (by omega)]; omega
          have hl2 : ((k - 2 : Nat) : Int) < 64 := by omega
          have hl7 : ((k - 7 : Nat) : Int) < 64 := by omega
          have hl15 : ((k - 15 : Nat) : Int) < 64 := by omega
          have hl16 : ((k - 16 : Nat) : Int) < 64 := by omega
          refine wp_region_still_tail 22 (by kernel_rfl) (by kernel_rfl) ?_
          simp only [List.take_succ_cons, List.take_zero, List.drop_succ_cons, List.drop_zero]
          iterate 5 still_step
          still_call ((small1_any x2 _ b2).mono (fun e w' h => ⟨h.1, h.2.symm⟩))
          iterate 9 still_step
          still_call ((small0_any x15 _ b15).mono (fun e w' h => ⟨h.1, h.2.symm⟩))
          iterate 6 still_step
          refine wpStill_nil ?_
          have hv : IntKind.u32.wrap (IntKind.u32.wrap (IntKind.u32.wrap ((sm1 x2 : Int) + (x7 : Int)) + (sm0 x15 : Int)) + (x16 : Int)) = ((nextW ws : Nat) : Int) := by
            rw [hnx.out, IntKind.wrap_u32, IntKind.wrap_u32, IntKind.wrap_u32]; omega
          rw [hv]
          clear hv hw2 hw7 hw15 hw16 hl2 hl7 hl15 hl16
          change wpList _ _ _ _ _ wr.drew
          have hbd : Below wr.heap.size wr wr.drew := (Below.refl _ _).drew
          have hcc' : wr.drew.cell? ⟨B3, k, none⟩ = some old := hcc
          have hff' : wr.drew.frozen? ⟨B3, k, none⟩ = false := hff
          clear hcc hff c2 c7 c15 c16
          generalize wr.drew = wz at hbd hcc' hff' ⊢
          go_wp2
          go_roundw
          case rel => exact ⟨k + 1, by omega, by omega, by go_num, by rw [HW.out]; exact hS.step hbd N13.out N23.out l3 (by rw [HN.out]; exact hlt) _ _ HN.out.symm⟩
          case measure => simp [intOf]; omega
        · obtain rfl : k = 64 := by omega
          have hfin : fillW (sch (64 - 16) (wordsOf l 16)) = sched l := by unfold fillW; rw [hln]; simp [sched]
          have hr3 := hS.r3
          rw [hfin] at hr3
          have hsl : (sched l).length = 64 := by unfold sched; rw [sch_len, wordsOf_len]
          have hr2 := hS.r2
          have hbel := hS.bel
          have n12 : w.heap.size ≤ B2 := L2.out
          have hws : w.heap.size ≤ wr.heap.size := hbel.size
          have HSL := Lib.hid hsl
          clear hln hal hfin hS hsl
          go_wp2_with (first
            | ((with_reducible refine arm_load (o := ⟨some 43, _, _, _, _, _⟩) rfl _ _ rfl B3 0 rfl (u32s (sched l)) (hr3.range 0 _ (fun j v hj => by rw [Nat.zero_add]; exact hj)) (by rw [u32s_length, HSL.out]; exact sz47) ?_))
            | ((with_reducible refine arm_store (o := ⟨none, _, _, _, _, _⟩) rfl _ _ _ rfl B2 0 rfl (u32s (sched l)) rfl _ _ hr2 (by rw [u32s_length, u32s_length, HSL.out]; simp) (u32s_one _) (by rw [u32s_length, HSL.out]; exact sz47) ?_); intro wf hrf hof hsf))
          refine bodyPost_ret (v := .agg (u32s (sched l)).toArray) (result_row (p := 2) (ty := 136) (u := 136) (by kernel_rfl) _ _ B2 _ rfl (hrf.congr (lay_all _ _ (by rw [u32s_length, u32s_length, HSL.out]; simp))) (by rw [u32s_length, HSL.out]; exact sz47)) rfl ⟨rfl, below_only hbel hof n12 hws⟩
end Go.Proofs.YtnjmocobncncdaaDoor.Sha

/-
  The contract of sha's mixed: the eight numbers behind one block more, over this seat's translation.
-/
namespace Go.Proofs.YtnjmocobncncdaaDoor.Sha
open Go.ChangeShapes Go.WideShapes Go.ChangeAt Go.RowKit Go.Proofs.YtnjmocobncncdaaDoor.Num Go.Proofs.YtnjmocobncncdaaDoor.Mem Go.Proofs.YtnjmocobncncdaaDoor.Bt
set_option linter.unusedVariables false

/-- Eight numbers of 32 bits. -/
structure Bd (s : S8) : Prop where
  a : s.a < 4294967296
  b : s.b < 4294967296
  c : s.c < 4294967296
  d : s.d < 4294967296
  e : s.e < 4294967296
  f : s.f < 4294967296
  g : s.g < 4294967296
  h : s.h < 4294967296
theorem rnd_bd {s : S8} (h : Bd s) (k w : Nat) : Bd (rnd s k w) := ⟨Nat.mod_lt _ (by omega), h.a, h.b, h.c, Nat.mod_lt _ (by omega), h.e, h.f, h.g⟩
theorem rnds_bd {s : S8} (h : Bd s) (ks ws : List Nat) (t : Nat) : Bd (rnds ks ws s t) := by
  induction t with
  | zero => exact h
  | succ t ih => exact rnd_bd ih _ _
theorem plus_bd (s r : S8) : Bd (plus s r) := ⟨Nat.mod_lt _ (by omega), Nat.mod_lt _ (by omega), Nat.mod_lt _ (by omega), Nat.mod_lt _ (by omega), Nat.mod_lt _ (by omega), Nat.mod_lt _ (by omega), Nat.mod_lt _ (by omega), Nat.mod_lt _ (by omega)⟩
theorem comp_bd (s : S8) (l : List Nat) : Bd (comp s l) := plus_bd _ _
theorem H0_bd : Bd H0 := by constructor <;> decide
theorem ks_lt : AllLt 4294967296 ks := by unfold AllLt ks; decide
theorem list_len (s : S8) : s.list.length = 8 := rfl
theorem sched_len (l : List Nat) : (sched l).length = 64 := by unfold sched; rw [sch_len, wordsOf_len]
theorem sched_lt {l : List Nat} (h : AllLt 256 l) : AllLt 4294967296 (sched l) := sch_lt _ (wordsOf_lt h 16)

/-- What holds in the loop of mixed. -/
structure MxRel (w : World) (s : S8) (l : List Nat) (B2 B4 B5 : Nat) (wr : World) : Prop where
  r2 : Row wr B2 119 (u32s s.list)
  r4 : Row wr B4 119 (u32s (List.replicate 8 0))
  r5 : Row wr B5 136 (u32s (sched l))
  rk : wr.rangeAt 0 0 (u32s ks)
  bel : Below w.heap.size w wr
theorem MxRel.drewN {w : World} {s : S8} {l : List Nat} {B2 B4 B5 : Nat} {wr : World} (h : MxRel w s l B2 B4 B5 wr) (n : Nat) : MxRel w s l B2 B4 B5 (wr.drewN n) :=
  ⟨h.r2, h.r4, h.r5, h.rk, h.bel.trans (below_drewN _ _ _)⟩
/-- The eight slots. -/
def Slots (s : S8) (a b c d e f g h : Value) : Prop :=
  a = .int .u32 (s.a : Int) ∧ b = .int .u32 (s.b : Int) ∧ c = .int .u32 (s.c : Int) ∧ d = .int .u32 (s.d : Int) ∧ e = .int .u32 (s.e : Int) ∧ f = .int .u32 (s.f : Int) ∧ g = .int .u32 (s.g : Int) ∧ h = .int .u32 (s.h : Int)

theorem u32_congr {a b : Int} (h : a = b) : Value.int .u32 a = .int .u32 b := by rw [h]
theorem slots_rnd (a b c d e f g h k w x y z u : Nat) (hx : x = bg1 e) (hy : y = chs e f g) (hz : z = bg0 a) (hu : u = mjr a b c) : Slots (rnd ⟨a, b, c, d, e, f, g, h⟩ k w)
    (.int .u32 ((((h : Int) + (x : Int) + (y : Int) + (k : Int) + (w : Int)) % 4294967296 + ((z : Int) + (u : Int)) % 4294967296) % 4294967296)) (.int .u32 (a : Int)) (.int .u32 (b : Int)) (.int .u32 (c : Int))
    (.int .u32 (((d : Int) + ((h : Int) + (x : Int) + (y : Int) + (k : Int) + (w : Int)) % 4294967296) % 4294967296)) (.int .u32 (e : Int)) (.int .u32 (f : Int)) (.int .u32 (g : Int)) := by
  subst hx hy hz hu
  refine ⟨u32_congr ?_, rfl, rfl, rfl, u32_congr ?_, rfl, rfl, rfl⟩
  · show _ = (((h + bg1 e + chs e f g + k + w + (bg0 a + mjr a b c)) % 4294967296 : Nat) : Int)
    omega
  · show _ = (((d + (h + bg1 e + chs e f g + k + w)) % 4294967296 : Nat) : Int)
    omega
set_option maxRecDepth 100000 in
theorem mixed_any (s : S8) (l : List Nat) (w : World) (hs : Bd s) (hl : l.length = 64) (hb : AllLt 256 l) (hk : w.rangeAt 0 0 (u32s ks)) :
    Calls Tryd.prog 56 #[.agg (u32s s.list).toArray, .agg (u8s l).toArray] w fun e w' => e = .returned (.agg (u32s (comp s l).list).toArray) ∧ Below w.heap.size w w' := by
  have HL := Lib.hid hl; clear hl
  have hk1 : 0 < w.heap.size := range_lt hk (by simp [u32s, ks])
  have HK := Lib.hid hk; clear hk
  go_enter Tryd.func56, Tryd.ntmps56
  go_wp2_with (first
    | ((with_reducible refine arm_box (o := ⟨some 2, _, _, _, _, _⟩) rfl _ _ rfl (u32s s.list) rfl ?_); intro B2 w1 hB2 hR2 hN1)
    | ((with_reducible refine arm_box (o := ⟨some 3, _, _, _, _, _⟩) rfl _ _ rfl (u8s l) rfl ?_); intro B3 w2 hB3 hR3 hN2)
    | ((with_reducible refine arm_alloc (o := ⟨some 4, _, _, _, _, _⟩) rfl _ rfl _ z40 ?_); intro B4 w3 hB4 hR4 hN3)
    | ((with_reducible refine arm_load (o := ⟨some 17, _, _, _, _, _⟩) rfl _ _ rfl B3 0 rfl (u8s l) ((hR3.old hN3.below).range 0 _ (fun j v hj => by rw [Nat.zero_add]; exact hj)) (by rw [u8s_length, HL.out]; exact sz42) ?_))
    | (go_at_call 71; (refine (spread_any l _ HL.out hb).mono ?_); rintro e w4 ⟨rfl, hN4⟩)
    | ((with_reducible refine arm_alloc (o := ⟨some 5, _, _, _, _, _⟩) rfl _ rfl _ z47 ?_); intro B5 w5 hB5 hR5 hN5)
    | ((with_reducible refine arm_store (o := ⟨none, _, _, _, _, _⟩) rfl _ _ _ rfl B5 0 rfl (u32s (sched l)) rfl _ _ hR5 (by rw [u32s_length, u32s_length, sched_len]; simp) (u32s_one _) (by rw [u32s_length, sched_len]; exact sz47) ?_); intro w6 hR6 hO6 hS6))
  have hb2 : B2 = w.heap.size := hB2.out
  have hb4 : B4 = w.heap.size + 2 := by have := hB4.out; have := hN1.size; have := hN2.size; omega
  have s3 : w3.heap.size = w.heap.size + 3 := by have := hN1.size; have := hN2.size; have := hN3.size; omega
  have s4 : w3.heap.size ≤ w4.heap.size := hN4.size
  have hb5 : B5 = w4.heap.size := hB5.out
  have l5 : w.heap.size ≤ B5 := by omega
  have bel6 : Below w.heap.size w w6 := below_only (below_step (below_step (below_step (below_step hN1.below (by rw [hN1.size]; omega) hN2.below) (by rw [hN2.size, hN1.size]; omega) hN3.below) (by omega) hN4) (by omega) hN5.below) hO6 l5 (by rw [hN5.size]; omega)
  have h0 : MxRel w s l B2 B4 B5 w6 := ⟨(((((hR2.old hN2.below).old hN3.below).old hN4).old hN5.below).only hO6 (by omega)), ((hR4.old hN4).old hN5.below).only hO6 (by omega), hR6.congr (lay_all _ _ (by rw [u32s_length, u32s_length, sched_len]; simp)), range_block HK.out (bel6.block _ hk1), bel6⟩
  have l4 : w.heap.size ≤ B4 := by omega
  clear hb2 hb4 hb5 s3 s4 hB2 hB3 hB4 hB5 hR2 hR3 hR4 hR5 hR6 hN1 hN2 hN3 hN4 hN5 hO6 hS6 l5 bel6 w1 w2 w3 w4 w5
  have c0 := h0.r2.cell (u32s_get (l := s.list) (i := 0) (by rw [list_len]; omega))
  have c1 := h0.r2.cell (u32s_get (l := s.list) (i := 1) (by rw [list_len]; omega))
  have c2 := h0.r2.cell (u32s_get (l := s.list) (i := 2) (by rw [list_len]; omega))
  have c3 := h0.r2.cell (u32s_get (l := s.list) (i := 3) (by rw [list_len]; omega))
  have c4 := h0.r2.cell (u32s_get (l := s.list) (i := 4) (by rw [list_len]; omega))
  have c5 := h0.r2.cell (u32s_get (l := s.list) (i := 5) (by rw [list_len]; omega))
  have c6 := h0.r2.cell (u32s_get (l := s.list) (i := 6) (by rw [list_len]; omega))
  have c7 := h0.r2.cell (u32s_get (l := s.list) (i := 7) (by rw [list_len]; omega))
  change w6.cell? _ = some (.int .u32 ((s.a : Nat) : Int)) at c0
  change w6.cell? _ = some (.int .u32 ((s.b : Nat) : Int)) at c1
  change w6.cell? _ = some (.int .u32 ((s.c : Nat) : Int)) at c2
  change w6.cell? _ = some (.int .u32 ((s.d : Nat) : Int)) at c3
  change w6.cell? _ = some (.int .u32 ((s.e : Nat) : Int)) at c4
  change w6.cell? _ = some (.int .u32 ((s.f : Nat) : Int)) at c5
  change w6.cell? _ = some (.int .u32 ((s.g : Nat) : Int)) at c6
  change w6.cell? _ = some (.int .u32 ((s.h : Nat) : Int)) at c7
  go_quiet (fail)
  have h1 := h0.drewN nq
  change (w6.drewN nq).cell? _ = _ at c4
  change (w6.drewN nq).cell? _ = _ at c5
  change (w6.drewN nq).cell? _ = _ at c6
  change (w6.drewN nq).cell? _ = _ at c7
  clear h0 c0 c1 c2 c3
  generalize w6.drewN nq = w7 at h1 c4 c5 c6 c7 ⊢
  clear nq w6
  go_wp2_with fail
  go_quiet (fail)
  have h2 := h1.drewN nq
  clear h1 c4 c5 c6 c7
  generalize w7.drewN nq = w8 at h2 ⊢
  clear nq w7
  go_wp2_with fail
  go_loopw [35, 6, 7, 8, 9, 10, 11, 12, 13] (fun i va vb vc vd ve vf vg vh wr => ∃ k : Nat, k ≤ 64 ∧ i = .int .i64 k ∧ Slots (rnds ks (sched l) s k) va vb vc vd ve vf vg vh ∧ MxRel w s l B2 B4 B5 wr) (fun i _ _ _ _ _ _ _ _ _ => 64 - (intOf i).toNat)
  case atStart => exact ⟨0, by omega, rfl, ⟨rfl, rfl, rfl, rfl, rfl, rfl, rfl, rfl⟩, h2⟩
  case round =>
    obtain ⟨k, hk, rfl, ⟨rfl, rfl, rfl, rfl, rfl, rfl, rfl, rfl⟩, hM⟩ := hrel
    clear h2
    have hrb := rnds_bd hs ks (sched l) k
    by_cases hlt : k < 64
    · have hR : Hid (rnds ks (sched l) s (k + 1) = rnd (rnds ks (sched l) s k) (ks.getD k 0) ((sched l).getD k 0)) := Lib.hid rfl
      generalize rnds ks (sched l) s k = r at hR hrb ⊢
      obtain ⟨ra, rb, rc, rd, re, rf, rg, rh⟩ := r
      obtain ⟨ba, bb, bc, bd, be, bf, bg, bh⟩ := hrb
      simp only at ba bb bc bd be bf bg bh
      have ck := hM.rk k _ (u32s_get (l := ks) (i := k) (by show k < 64; exact hlt))
      rw [Nat.zero_add] at ck
      have cw := hM.r5.cell (u32s_get (l := sched l) (i := k) (by rw [sched_len]; exact hlt))
      have bk := getD_lt ks_lt (by omega) k
      have bw := getD_lt (sched_lt hb) (by omega) k
      generalize ks.getD k 0 = xk at ck bk hR
      generalize (sched l).getD k 0 = xw at cw bw hR
      have b1 := bg1_lt be
      have b2 := chs_lt (y := rf) (z := rg) be
      have b3 := bg0_lt ba
      have b4 := mjr_lt (z := rc) ba bb
      go_wp2_with fail
      have ik : (k : Int) < 64 := by omega
      go_quiet (first | (go_at_call 72; exact Calls.quiet_of_same ((big1_any _ _ be).mono fun _ _ h => ⟨h.1, h.2.symm⟩)) | (go_at_call 73; exact Calls.quiet_of_same ((choice_any _ _ _ _ be bf bg).mono fun _ _ h => ⟨h.1, h.2.symm⟩)))
      have hM2 := hM.drewN nq
      clear hM ck cw
      generalize wr.drewN nq = w9 at hM2 ⊢
      go_wp2_with (first | (go_at_call 74; (refine (big0_any _ _ ba).mono ?_); rintro e w' ⟨rfl, rfl⟩) | (go_at_call 75; (refine (majority_any _ _ _ _ ba bb bc).mono ?_); rintro e w' ⟨rfl, rfl⟩))
      go_roundw
      case rel => exact ⟨k + 1, by omega, by go_num, by rw [hR.out]; exact slots_rnd ra rb rc rd re rf rg rh xk xw _ _ _ _ rfl rfl rfl rfl, hM2⟩
      case measure => simp [intOf]; omega
    · obtain rfl : k = 64 := by omega
      rw [show ((64 : Nat) : Int) = 64 from rfl]
      have c0 : wr.cell? ⟨B2, 0, none⟩ = some (.int .u32 ((s.a : Nat) : Int)) := hM.r2.cell (u32s_get (l := s.list) (i := 0) (by rw [list_len]; omega))
      have c1 : wr.cell? ⟨B2, 1, none⟩ = some (.int .u32 ((s.b : Nat) : Int)) := hM.r2.cell (u32s_get (l := s.list) (i := 1) (by rw [list_len]; omega))
      have c2 : wr.cell? ⟨B2, 2, none⟩ = some (.int .u32 ((s.c : Nat) : Int)) := hM.r2.cell (u32s_get (l := s.list) (i := 2) (by rw [list_len]; omega))
      have c3 : wr.cell? ⟨B2, 3, none⟩ = some (.int .u32 ((s.d : Nat) : Int)) := hM.r2.cell (u32s_get (l := s.list) (i := 3) (by rw [list_len]; omega))
      have c4 : wr.cell? ⟨B2, 4, none⟩ = some (.int .u32 ((s.e : Nat) : Int)) := hM.r2.cell (u32s_get (l := s.list) (i := 4) (by rw [list_len]; omega))
      have c5 : wr.cell? ⟨B2, 5, none⟩ = some (.int .u32 ((s.f : Nat) : Int)) := hM.r2.cell (u32s_get (l := s.list) (i := 5) (by rw [list_len]; omega))
      have c6 : wr.cell? ⟨B2, 6, none⟩ = some (.int .u32 ((s.g : Nat) : Int)) := hM.r2.cell (u32s_get (l := s.list) (i := 6) (by rw [list_len]; omega))
      have c7 : wr.cell? ⟨B2, 7, none⟩ = some (.int .u32 ((s.h : Nat) : Int)) := hM.r2.cell (u32s_get (l := s.list) (i := 7) (by rw [list_len]; omega))
      have hC : Hid (comp s l = plus s (rnds ks (sched l) s 64)) := Lib.hid rfl
      generalize rnds ks (sched l) s 64 = r at hC hrb ⊢
      have hws : w.heap.size ≤ wr.heap.size := hM.bel.size
      obtain ⟨sa, sb, sc, sd, se, sf, sg, sh⟩ := hs
      obtain ⟨ba, bb, bc, bd, be, bf, bg, bh⟩ := hrb
      go_wp2_with (first
        | ((with_reducible refine arm_store (o := ⟨none, _, _, _, _, _⟩) rfl _ _ _ rfl B4 0 rfl (u32s (plus s r).list) rfl _ _ hM.r4 (by rw [u32s_length, u32s_length, list_len]; simp) (u32s_one _) (by rw [u32s_length, list_len]; exact sz40) ?_); intro wf hrf hof hsf))
      refine bodyPost_ret (v := .agg (u32s (plus s r).list).toArray) (result_row (p := 4) (ty := 119) (u := 119) (by kernel_rfl) _ _ B4 _ rfl (hrf.congr (lay_all _ _ (by rw [u32s_length, u32s_length, list_len]; simp))) (by rw [u32s_length, list_len]; exact sz40)) rfl ⟨by rw [hC.out], below_only hM.bel hof l4 hws⟩
end Go.Proofs.YtnjmocobncncdaaDoor.Sha

/-
  Plain facts on bytes that are taken block by block: what is written in parts is what is written at once; what stands behind the bytes. No program, no world.
-/
namespace Go.Proofs.YtnjmocobncncdaaDoor.Sha
open Go.RowKit Go.Proofs.YtnjmocobncncdaaDoor.Mem Go.Proofs.YtnjmocobncncdaaDoor.Bt
set_option linter.unusedVariables false

theorem fold64_more (n : Nat) : ∀ (s : S8) (l c : List Nat), 64 * n ≤ l.length → fold64 n s (l ++ c) = fold64 n s l := by
  induction n with
  | zero => intros; rfl
  | succ n ih =>
    intro s l c h
    show fold64 n (comp s ((l ++ c).take 64)) ((l ++ c).drop 64) = fold64 n (comp s (l.take 64)) (l.drop 64)
    rw [List.take_append_of_le_length (by omega), List.drop_append_of_le_length (by omega)]
    exact ih _ _ _ (by rw [List.length_drop]; omega)
theorem fold64_snoc (n : Nat) : ∀ (s : S8) (l : List Nat), fold64 (n + 1) s l = comp (fold64 n s l) ((l.drop (64 * n)).take 64) := by
  induction n with
  | zero => intro s l; rfl
  | succ n ih =>
    intro s l
    show fold64 (n + 1) (comp s (l.take 64)) (l.drop 64) = comp (fold64 n (comp s (l.take 64)) (l.drop 64)) _
    rw [ih, List.drop_drop]
    congr 3
    omega
theorem fold64_bd (n : Nat) : ∀ (s : S8) (l : List Nat), Bd s → Bd (fold64 n s l) := by
  induction n with
  | zero => intro s l h; exact h
  | succ n ih => intro s l h; exact ih _ _ (comp_bd _ _)
theorem stOf_bd (l : List Nat) : Bd (stOf l) := fold64_bd _ _ _ H0_bd
theorem leftOf_len (l : List Nat) : (leftOf l).length = l.length % 64 := by unfold leftOf; rw [List.length_drop]; omega
theorem leftOf_lt {l : List Nat} (h : AllLt 256 l) : AllLt 256 (leftOf l) := fun x hx => h x (List.mem_of_mem_drop hx)
theorem keep_st (l c : List Nat) (h : l.length % 64 + c.length < 64) : stOf (l ++ c) = stOf l := by
  unfold stOf
  rw [List.length_append, show (l.length + c.length) / 64 = l.length / 64 from by omega, fold64_more _ _ _ _ (by omega)]
theorem keep_left (l c : List Nat) (h : l.length % 64 + c.length < 64) : leftOf (l ++ c) = leftOf l ++ c := by
  unfold leftOf
  rw [List.length_append, show (l.length + c.length) / 64 = l.length / 64 from by omega, List.drop_append_of_le_length (by omega)]
theorem full_st (l c : List Nat) (h : l.length % 64 + c.length = 64) : stOf (l ++ c) = comp (stOf l) (leftOf l ++ c) := by
  unfold stOf leftOf
  rw [List.length_append, show (l.length + c.length) / 64 = l.length / 64 + 1 from by omega, fold64_snoc, fold64_more _ _ _ _ (by omega), List.drop_append_of_le_length (by omega), List.take_of_length_le (by rw [List.length_append, List.length_drop]; omega)]
theorem full_left (l c : List Nat) (h : l.length % 64 + c.length = 64) : leftOf (l ++ c) = [] := by
  unfold leftOf
  rw [List.length_append, show 64 * ((l.length + c.length) / 64) = l.length + c.length from by omega, ← List.length_append, List.drop_length]

/-- The 64 places of the bytes behind the last whole block. -/
def leftCells (l : List Nat) : List Nat := leftOf l ++ List.replicate (64 - l.length % 64) 0
theorem leftCells_len (l : List Nat) : (leftCells l).length = 64 := by unfold leftCells; rw [List.length_append, leftOf_len, List.length_replicate]; omega
/-- A hasher's cells behind the bytes l. -/
def hcells (l : List Nat) : List Value := u32s (stOf l).list ++ (u8s (leftCells l) ++ [.int .u64 (l.length : Int)])
theorem hcells_len (l : List Nat) : (hcells l).length = 73 := by unfold hcells; simp [u32s_length, u8s_length, leftCells_len, list_len]
theorem hcells_count (l : List Nat) : (hcells l)[72]? = some (.int .u64 (l.length : Int)) := by
  unfold hcells
  rw [List.getElem?_append_right (by rw [u32s_length, list_len]; omega), u32s_length, list_len, List.getElem?_append_right (by rw [u8s_length, leftCells_len]; omega), u8s_length, leftCells_len]
  rfl
theorem hcells_words (l : List Nat) (j : Nat) (v : Value) (h : (u32s (stOf l).list)[j]? = some v) : (hcells l)[0 + j]? = some v := by
  have hj := (List.getElem?_eq_some_iff.1 h).1
  rw [Nat.zero_add]; unfold hcells
  rw [List.getElem?_append_left hj]; exact h
/-- Cells laid over the places of the bytes that are left. -/
theorem lay_left (l c : List Nat) (h : l.length % 64 + c.length ≤ 64) : lay (hcells l) (8 + l.length % 64) (u8s c) = u32s (stOf l).list ++ (u8s (leftOf l ++ c ++ List.replicate (64 - (l.length % 64 + c.length)) 0) ++ [.int .u64 (l.length : Int)]) := by
  have hw : (u32s (stOf l).list).length = 8 := by rw [u32s_length, list_len]
  have hl : (u8s (leftOf l)).length = l.length % 64 := by rw [u8s_length, leftOf_len]
  unfold lay hcells leftCells
  rw [u8s_length, List.take_append, List.drop_append, hw]
  rw [List.take_of_length_le (by rw [hw]; omega), List.drop_eq_nil_of_le (by rw [hw]; omega)]
  rw [show 8 + l.length % 64 - 8 = l.length % 64 from by omega, show 8 + l.length % 64 + c.length - 8 = l.length % 64 + c.length from by omega]
  rw [u8s_append, List.append_assoc (u8s (leftOf l)), List.take_append_of_le_length (by rw [hl]; omega), List.take_of_length_le (by rw [hl]; omega)]
  rw [List.drop_append, hl, List.drop_eq_nil_of_le (by rw [hl]; omega), show l.length % 64 + c.length - l.length % 64 = c.length from by omega]
  rw [List.drop_append_of_le_length (by rw [u8s_length, List.length_replicate]; omega)]
  have hd : (u8s (List.replicate (64 - l.length % 64) 0)).drop c.length = u8s (List.replicate (64 - (l.length % 64 + c.length)) 0) := by
    unfold u8s; rw [← List.map_drop, List.drop_replicate]; congr 2; omega
  rw [hd, u8s_append, u8s_append]
  simp
theorem set_count (A B : List Value) (x y : Value) (hA : A.length = 8) (hB : B.length = 64) : (A ++ (B ++ [x])).set 72 y = A ++ (B ++ [y]) := by
  rw [List.set_append_right _ _ (by omega), hA, List.set_append_right _ _ (by omega), hB]; rfl
theorem mid_len (l c : List Nat) (h : l.length % 64 + c.length ≤ 64) : (leftOf l ++ c ++ List.replicate (64 - (l.length % 64 + c.length)) 0).length = 64 := by
  rw [List.length_append, List.length_append, leftOf_len, List.length_replicate]; omega
/-- Less than a block: the bytes lie there. -/
theorem hc_keep (l c : List Nat) (h : l.length % 64 + c.length < 64) : (lay (hcells l) (8 + l.length % 64) (u8s c)).set 72 (.int .u64 ((l.length : Int) + (c.length : Int))) = hcells (l ++ c) := by
  rw [lay_left l c (by omega), set_count _ _ _ _ (by rw [u32s_length, list_len]) (by rw [u8s_length, mid_len l c (by omega)])]
  unfold hcells leftCells
  rw [keep_st l c h, keep_left l c h, List.length_append, show (l.length + c.length) % 64 = l.length % 64 + c.length from by omega]
  simp
/-- A whole block lies there. -/
def hmid (l c : List Nat) : List Value := u32s (stOf l).list ++ (u8s (leftOf l ++ c) ++ [.int .u64 ((l.length : Int) + (c.length : Int))])
theorem hc_mid (l c : List Nat) (h : l.length % 64 + c.length = 64) : (lay (hcells l) (8 + l.length % 64) (u8s c)).set 72 (.int .u64 ((l.length : Int) + (c.length : Int))) = hmid l c := by
  rw [lay_left l c (by omega), set_count _ _ _ _ (by rw [u32s_length, list_len]) (by rw [u8s_length, mid_len l c (by omega)])]
  unfold hmid
  rw [h]; simp
theorem hmid_len (l c : List Nat) (h : l.length % 64 + c.length = 64) : (hmid l c).length = 73 := by unfold hmid; simp [u32s_length, u8s_length, leftOf_len, list_len]; omega
theorem hmid_words (l c : List Nat) (j : Nat) (v : Value) (h : (u32s (stOf l).list)[j]? = some v) : (hmid l c)[0 + j]? = some v := by
  have hj := (List.getElem?_eq_some_iff.1 h).1
  rw [Nat.zero_add]; unfold hmid
  rw [List.getElem?_append_left hj]; exact h
theorem hmid_left (l c : List Nat) (j : Nat) (v : Value) (h : (u8s (leftOf l ++ c))[j]? = some v) : (hmid l c)[8 + j]? = some v := by
  have hj := (List.getElem?_eq_some_iff.1 h).1
  unfold hmid
  rw [List.getElem?_append_right (by rw [u32s_length, list_len]; omega), u32s_length, list_len, show 8 + j - 8 = j from by omega, List.getElem?_append_left hj]; exact h
theorem hc_full (l c : List Nat) (h : l.length % 64 + c.length = 64) : lay (lay (hmid l c) 0 (u32s (comp (stOf l) (leftOf l ++ c)).list)) 8 (u8s (List.replicate 64 0)) = hcells (l ++ c) := by
  have e1 : lay (hmid l c) 0 (u32s (comp (stOf l) (leftOf l ++ c)).list) = u32s (comp (stOf l) (leftOf l ++ c)).list ++ (u8s (leftOf l ++ c) ++ [.int .u64 ((l.length : Int) + (c.length : Int))]) := by
    unfold lay hmid
    rw [List.take_zero, List.nil_append, u32s_length, list_len, List.drop_append_of_le_length (by rw [u32s_length, list_len]; omega), List.drop_eq_nil_of_le (by rw [u32s_length, list_len]; omega), List.nil_append]
  have h8 : (u32s (comp (stOf l) (leftOf l ++ c)).list).length = 8 := by rw [u32s_length, list_len]
  have h64 : (u8s (leftOf l ++ c)).length = 64 := by rw [u8s_length, List.length_append, leftOf_len]; exact h
  rw [e1]
  unfold lay hcells leftCells
  rw [full_st l c h, full_left l c h, List.length_append, show (l.length + c.length) % 64 = 0 from by omega]
  rw [List.take_append_of_le_length (by omega), List.take_of_length_le (by omega), u8s_length, List.length_replicate, List.drop_append, h8, List.drop_eq_nil_of_le (by omega), show 8 + 64 - 8 = 64 from rfl, List.drop_append_of_le_length (by omega), List.drop_eq_nil_of_le (by omega)]
  simp
theorem lay_count (l c : List Nat) (h : l.length % 64 + c.length ≤ 64) : (lay (hcells l) (8 + l.length % 64) (u8s c))[72]? = some (.int .u64 (l.length : Int)) := by
  rw [lay_left l c h, List.getElem?_append_right (by rw [u32s_length, list_len]; omega), u32s_length, list_len, List.getElem?_append_right (by rw [u8s_length, mid_len l c h]; omega), u8s_length, mid_len l c h]
  rfl
theorem lay_len (l c : List Nat) (h : l.length % 64 + c.length ≤ 64) : (lay (hcells l) (8 + l.length % 64) (u8s c)).length = 73 := by
  rw [lay_left l c h, List.length_append, List.length_append, u32s_length, list_len, u8s_length, mid_len l c h]; rfl
end Go.Proofs.YtnjmocobncncdaaDoor.Sha

/-
  The contracts of sha's Hasher: New and Write, over this seat's translation.
-/
namespace Go.Proofs.YtnjmocobncncdaaDoor.Sha
open Go.ChangeShapes Go.WideShapes Go.ChangeAt Go.RowKit Go.Proofs.YtnjmocobncncdaaDoor.Num Go.Proofs.YtnjmocobncncdaaDoor.Mem Go.Proofs.YtnjmocobncncdaaDoor.Bt
set_option linter.unusedVariables false

/-- A new hasher. -/
structure NewPost (w : World) (e : Ending) (w' : World) : Prop where
  end_ : e = .returned (.pointer (some ⟨w.heap.size, 0, none⟩))
  row : Row w' w.heap.size 122 (hcells [])
  new : New w w'
theorem new_any (w : World) : Calls Tryd.prog 43 #[] w (NewPost w) := by
  go_enter Tryd.func43, Tryd.ntmps43
  go_wp2_with (first
    | (with_reducible refine arm_build (o := ⟨some 1, _, _, _, _, _⟩) rfl _ _ rfl (u32s H0.list) (by kernel_rfl) ?_)
    | (with_reducible refine arm_build (o := ⟨some 2, _, _, _, _, _⟩) rfl _ _ rfl (hcells []) (by kernel_rfl) ?_)
    | ((with_reducible refine arm_box (o := ⟨some 3, _, _, _, _, _⟩) rfl _ _ rfl (hcells []) rfl ?_); intro B w1 hB hR hN))
  have hb := hB.out
  subst hb
  go_ret
  exact ⟨rfl, hR, hN⟩
/-- A slice of these bytes: where there is one, its address. -/
structure Bytes (w : World) (p : Option Addr) (bs : List Nat) : Prop where
  at_ : bs ≠ [] → ∃ g o, p = some ⟨g, o, none⟩ ∧ w.rangeAt g o (u8s bs)
def sliceLen : Value → Nat
  | .slice _ n _ => n
  | _ => 0
/-- What holds at the head of Write's loop: the bytes ahead are taken, those behind are still to come. -/
structure WrRel (w : World) (B : Nat) (l bs : List Nat) (v : Value) (wr : World) : Prop where
  ex : ∃ pre post : List Nat, ∃ p : Option Addr, ∃ cap : Nat, bs = pre ++ post ∧ v = .slice p post.length cap ∧ post.length ≤ cap ∧ (post ≠ [] → ∃ g o, p = some ⟨g, o, none⟩ ∧ g ≠ B ∧ wr.rangeAt g o (u8s post)) ∧ Row wr B 122 (hcells (l ++ pre))
  only : Only B w wr

theorem wr_step {w wr w3 : World} {B g o cap tk : Nat} {l bs pre post : List Nat} {q2 : Option Addr} (hbs : bs = pre ++ post) (hR3 : Row w3 B 122 (hcells ((l ++ pre) ++ post.take tk))) (hO : Only B w wr) (hO' : Only B wr w3)
    (hrg : wr.rangeAt g o (u8s post)) (hgB : g ≠ B) (hpost : post ≠ []) (hq2 : tk < post.length → q2 = some ⟨g, o + tk, none⟩) (ht : tk ≤ post.length) (hc1 : post.length ≤ cap) : WrRel w B l bs (.slice q2 (post.length - tk) (cap - tk)) w3 := by
  refine ⟨⟨pre ++ post.take tk, post.drop tk, q2, cap - tk, ?_, ?_, ?_, ?_, ?_⟩, hO.trans hO'⟩
  · rw [hbs, List.append_assoc, List.take_append_drop]
  · rw [List.length_drop]
  · rw [List.length_drop]; omega
  · intro hne
    have hlt : tk < post.length := by
      rcases Nat.lt_or_ge tk post.length with h | h
      · exact h
      · exact absurd (List.drop_eq_nil_of_le h) hne
    refine ⟨g, o + tk, hq2 hlt, hgB, range_block (fun j v hj => ?_) (hO'.block g (range_lt hrg (by intro h; apply hpost; simpa [u8s] using h)) hgB)⟩
    rw [Nat.add_assoc]
    refine hrg (tk + j) v ?_
    unfold u8s at hj ⊢
    rw [List.getElem?_map, List.getElem?_drop] at hj
    rw [List.getElem?_map]; exact hj
  · rw [← List.append_assoc]; exact hR3

theorem field0 (b : Nat) (w : World) : (Instr.fieldAt 122 (.pointer (some ⟨b, 0, none⟩)) 0).run Tryd.prog w = .ok (.pointer (some ⟨b, 0, none⟩)) w := by kernel_rfl
theorem field1 (b : Nat) (w : World) : (Instr.fieldAt 122 (.pointer (some ⟨b, 0, none⟩)) 1).run Tryd.prog w = .ok (.pointer (some ⟨b, 8, none⟩)) w := by kernel_rfl

set_option maxHeartbeats 2000000 in
set_option maxRecDepth 100000 in
theorem write_any (l bs : List Nat) (B cap : Nat) (p : Option Addr) (w : World) (hr : Row w B 122 (hcells l)) (hl : AllLt 256 l) (hb : AllLt 256 bs) (hsz : l.length + bs.length ≤ 1000000) (hcap : bs.length ≤ cap)
    (hp : bs ≠ [] → ∃ g o, p = some ⟨g, o, none⟩ ∧ g ≠ B ∧ w.rangeAt g o (u8s bs)) (hk : w.rangeAt 0 0 (u32s ks)) (hkB : 0 ≠ B) :
    Calls Tryd.prog 44 #[.pointer (some ⟨B, 0, none⟩), .slice p bs.length cap] w fun e w' => e = .returned (.tuple #[]) ∧ Row w' B 122 (hcells (l ++ bs)) ∧ Only B w w' := by
  have h0 : WrRel w B l bs (.slice p bs.length cap) w := ⟨⟨[], bs, p, cap, rfl, rfl, hcap, hp, by rw [List.append_nil]; exact hr⟩, Only.refl _ _⟩
  have HKB := Lib.hid hkB
  have HK := Lib.hid hk
  have hk1 : 0 < w.heap.size := range_lt hk (by simp [u32s, ks])
  clear hr hp hk hkB hcap
  go_enter Tryd.func44, Tryd.ntmps44
  go_wp2_with fail
  go_loopw [1] (fun v wr => WrRel w B l bs v wr) (fun v _ => sliceLen v)
  case atStart => exact h0
  case round =>
    clear h0
    obtain ⟨⟨pre, post, q, cap', hbs, rfl, hc1, hq, hR⟩, hO⟩ := hrel
    by_cases hpost : post = []
    · subst hpost
      rw [List.append_nil] at hbs
      subst hbs
      clear hq
      rw [show (([] : List Nat).length) = 0 from rfl] at hc1 ⊢
      go_wp2_with fail
      go_end0
      exact ⟨rfl, hR, hO⟩
    · obtain ⟨g, o, rfl, hgB, hrg⟩ := hq hpost
      have hpos : 0 < post.length := List.length_pos_iff.2 hpost
      have hbl : bs.length = pre.length + post.length := by rw [hbs, List.length_append]
      have hLl : (l ++ pre).length = l.length + pre.length := List.length_append
      have hLlt : AllLt 256 (l ++ pre) := append_lt hl (fun x hx => hb x (by rw [hbs]; exact List.mem_append_left _ hx))
      have hplt : AllLt 256 post := fun x hx => hb x (by rw [hbs]; exact List.mem_append_right _ hx)
      have hLe : (l ++ pre).length + post.length ≤ 1000000 := by omega
      have HBS := Lib.hid hbs; clear hbs hbl hLl hq
      generalize hLg : l ++ pre = L at hR hLlt hLe
      have HL := Lib.hid hLg
      obtain ⟨tk, htk⟩ : ∃ tk : Nat, tk = Nat.min post.length (64 - L.length % 64) := ⟨_, rfl⟩
      have ht1 : tk ≤ post.length := by rw [htk]; exact Nat.min_le_left _ _
      have ht2 : L.length % 64 + tk ≤ 64 := by have : tk ≤ 64 - L.length % 64 := by rw [htk]; exact Nat.min_le_right _ _
                                               omega
      have ht3 : 0 < tk := by rw [htk]; exact Nat.lt_min.2 ⟨hpos, by omega⟩
      have hct : (post.take tk).length = tk := by rw [List.length_take]; omega
      have HT := Lib.hid htk; have HCT := Lib.hid hct; clear htk hct hLg
      have hcc := hR.cell (hcells_count L)
      have hrc : wr.rangeAt g o (u8s (post.take tk)) := fun j v hj => hrg j v (by
        have hj2 := (List.getElem?_eq_some_iff.1 hj).1
        rw [u8s_length, List.length_take] at hj2
        unfold u8s at hj ⊢
        rw [List.getElem?_map, List.getElem?_take, if_pos (by omega)] at hj
        rw [List.getElem?_map]; exact hj)
      have hneg : decide ((0 : Int) < (post.length : Int)) = true := decide_eq_true (by omega)
      by_cases hfull : L.length % 64 + tk = 64
      · have hz : ((((L.length : Int) + (tk : Int)) % 64) == 0) = true := beq_iff_eq.2 (by omega)
        clear hneg
        go_wp2_with (first
          | (with_reducible refine arm_sliceLow (o := ⟨some 18, _, _, _, _, _⟩) rfl _ _ _ rfl 64 5 (by kernel_rfl) (by kernel_rfl) B 8 rfl .u64 _ rfl (L.length % 64) (by omega) (by omega) ?_)
          | ((with_reducible refine arm_copy (o := ⟨some 20, _, _, _, _, _⟩) rfl _ _ _ _ rfl 5 (by kernel_rfl) (by kernel_rfl) B (8 + L.length % 64) _ _ rfl g o _ _ rfl (u8s (post.take tk)) tk (by rw [u8s_length, HCT.out]) HT.out hrc _ _ hR (by rw [u8s_length, HCT.out, hcells_len]; omega) (u8s_one _) ?_); intro w2 hR2 hO2 hS2; have hcc2 := hR2.cell (show (lay (hcells L) (8 + L.length % 64) (u8s (post.take tk)))[72]? = some (.int .u64 (L.length : Int)) from lay_count L _ (by rw [HCT.out]; exact ht2)))
          | ((with_reducible refine arm_store1 (o := ⟨none, _, _, _, _, _⟩) rfl _ _ _ rfl B 72 rfl .u64 _ rfl (by kernel_rfl) _ _ hR2 (by rw [lay_len L _ (by rw [HCT.out]; exact ht2)]; omega) ?_); intro w3 hR3 hO3 hS3; have hcc3 := hR3.cell (set_get _ _ 72 (by rw [lay_len L _ (by rw [HCT.out]; exact ht2)]; omega)))
          | ((with_reducible refine arm_reslice (o := ⟨some 32, _, _, _, _, _⟩) rfl _ _ _ rfl 5 (by kernel_rfl) (by kernel_rfl) g o _ _ rfl .i64 _ rfl tk rfl ht1 hc1 ?_); intro q2 hq2))
        have hR4 : Row w3 B 122 (hmid L (post.take tk)) := hR3.congr (by have := hc_mid L (post.take tk) (by rw [HCT.out]; exact hfull); rw [HCT.out] at this; exact this)
        have hO4 : Only B wr w3.drew := (hO2.trans hO3).trans (Only.of_below B ((Below.refl _ _).drew))
        have hRz : Row w3.drew B 122 (hmid L (post.take tk)) := hR4
        clear hR3 hR4 hcc hcc2 hcc3 hz hrc hR2 hO2 hO3 hS2 hS3
        refine wp_region_any (by kernel_rfl) ?_
        change wpAny _ _ _ _ _ _ _ w3.drew
        generalize w3.drew = wz at hRz hO4 ⊢
        have hmw : wz.rangeAt B 0 (u32s (stOf L).list) := hRz.range 0 _ (hmid_words L (post.take tk))
        have hkz : wz.rangeAt 0 0 (u32s ks) := range_block (range_block HK.out (hO.block _ hk1 HKB.out)) (hO4.block _ (Nat.lt_of_lt_of_le hk1 hO.size) HKB.out)
        have hml : wz.rangeAt B 8 (u8s (leftOf L ++ post.take tk)) := hRz.range 8 _ (hmid_left L (post.take tk))
        have hlf : (leftOf L ++ post.take tk).length = 64 := by rw [List.length_append, leftOf_len, HCT.out]; exact hfull
        have hlfb : AllLt 256 (leftOf L ++ post.take tk) := append_lt (leftOf_lt hLlt) (fun x hx => hplt x (List.mem_of_mem_take hx))
        refine wpAny_take0 (i := 0) (v := .pointer (some ⟨B, 0, none⟩)) rfl rfl 39 rfl (by kernel_rfl) (by kernel_rfl) (by kernel_rfl) (fun _ _ _ h => h) (run_op_move _ rfl _ rfl) ?_
        simp only [Act.put, List.setIfInBounds_toArray, List.set_cons_zero, List.set_cons_succ]
        refine wpAny_take0 (i := 1) (v := .pointer (some ⟨B, 0, none⟩)) rfl rfl 40 rfl (by kernel_rfl) (by kernel_rfl) (by kernel_rfl) (fun _ _ _ h => h) (run_op_move _ rfl _ rfl) ?_
        simp only [Act.put, List.setIfInBounds_toArray, List.set_cons_zero, List.set_cons_succ]
        refine wpAny_take0 (i := 2) (v := .pointer (some ⟨B, 0, none⟩)) rfl rfl 41 rfl (by kernel_rfl) (by kernel_rfl) (by kernel_rfl) (fun _ _ _ h => h) (run_op_nilCheck _ rfl _ rfl) ?_
        simp only [Act.put, List.setIfInBounds_toArray, List.set_cons_zero, List.set_cons_succ]
        refine wpAny_take0 (i := 3) (v := .pointer (some ⟨B, 0, none⟩)) rfl rfl 42 rfl (by kernel_rfl) (by kernel_rfl) (by kernel_rfl) (fun _ _ _ h => h) (run_op_field _ _ _ rfl _ _ rfl (field0 B)) ?_
        simp only [Act.put, List.setIfInBounds_toArray, List.set_cons_zero, List.set_cons_succ]
        refine wpAny_take0 (i := 5) (v := .pointer (some ⟨B, 0, none⟩)) rfl rfl 44 rfl (by kernel_rfl) (by kernel_rfl) (by kernel_rfl) (fun _ _ _ h => h) (run_op_move _ rfl _ rfl) ?_
        simp only [Act.put, List.setIfInBounds_toArray, List.set_cons_zero, List.set_cons_succ]
        refine wpAny_take0 (i := 6) (v := .pointer (some ⟨B, 0, none⟩)) rfl rfl 45 rfl (by kernel_rfl) (by kernel_rfl) (by kernel_rfl) (fun _ _ _ h => h) (run_op_nilCheck _ rfl _ rfl) ?_
        simp only [Act.put, List.setIfInBounds_toArray, List.set_cons_zero, List.set_cons_succ]
        refine wpAny_take0 (i := 7) (v := .pointer (some ⟨B, 8, none⟩)) rfl rfl 46 rfl (by kernel_rfl) (by kernel_rfl) (by kernel_rfl) (fun _ _ _ h => h) (run_op_field _ _ _ rfl _ _ rfl (field1 B)) ?_
        simp only [Act.put, List.setIfInBounds_toArray, List.set_cons_zero, List.set_cons_succ]
        refine wpAny_pair (i := 4) (j := 8) (vi := .agg (u32s (stOf L).list).toArray) (vj := .agg (u8s (leftOf L ++ post.take tk)).toArray) rfl rfl (by kernel_rfl) (by kernel_rfl) (by kernel_rfl) (by omega) rfl rfl 43 47 rfl rfl (by kernel_rfl) (by kernel_rfl)
          (run_op_load _ _ rfl B 0 rfl _ hmw (by rw [u32s_length, list_len]; exact sz40)) (run_op_load _ _ rfl B 8 rfl _ hml (by rw [u8s_length, hlf]; exact sz42)) ?_
        simp only [Act.put, List.setIfInBounds_toArray, List.set_cons_zero, List.set_cons_succ]
        refine wpAny_one (i := 9) (by kernel_rfl) (wpOp_call 48 rfl rfl rfl (run_op_call 56 _ _ rfl #[.agg (u32s (stOf L).list).toArray, .agg (u8s (leftOf L ++ post.take tk)).toArray] (by simp only [List.map_toArray, List.map_cons, List.map_nil]; rfl) Tryd.func56 (by kernel_rfl) (by kernel_rfl) wz) (mixed_any (stOf L) _ wz (stOf_bd L) hlf hlfb hkz) ?_)
        rintro e w5 ⟨rfl, hN5⟩
        refine ⟨_, rfl, ?_⟩
        simp only [Act.put, List.setIfInBounds_toArray, List.set_cons_zero, List.set_cons_succ]
        refine wpAny_take0 (i := 10) (v := .pointer (some ⟨B, 0, none⟩)) rfl rfl 49 rfl (by kernel_rfl) (by kernel_rfl) (by kernel_rfl) (fun _ _ _ h => h) (run_op_nilCheck _ rfl _ rfl) ?_
        simp only [Act.put, List.setIfInBounds_toArray, List.set_cons_zero, List.set_cons_succ]
        refine wpAny_take0 (i := 11) (v := .pointer (some ⟨B, 0, none⟩)) rfl rfl 50 rfl (by kernel_rfl) (by kernel_rfl) (by kernel_rfl) (fun _ _ _ h => h) (run_op_field _ _ _ rfl _ _ rfl (field0 B)) ?_
        simp only [Act.put, List.setIfInBounds_toArray, List.set_cons_zero, List.set_cons_succ]
        refine wpAny_one (i := 12) (by kernel_rfl) (wpOp_skip rfl rfl rfl (run_op_store _ _ _ rfl B 0 rfl (u32s (comp (stOf L) (leftOf L ++ post.take tk)).list) rfl _ _ (hRz.old hN5) (by rw [u32s_length, list_len, hmid_len _ _ (by rw [HCT.out]; exact hfull)]; omega) (u32s_one _) (by rw [u32s_length, list_len]; exact sz40)) ?_)
        refine wpAny_done (by kernel_rfl) ?_ _
        have hR6 : Row (w5.setRow B (lay (hmid L (post.take tk)) 0 (u32s (comp (stOf L) (leftOf L ++ post.take tk)).list)).toArray) B 122 (lay (hmid L (post.take tk)) 0 (u32s (comp (stOf L) (leftOf L ++ post.take tk)).list)) := row_setRow (hRz.old hN5) _
        have hO6 : Only B wr (w5.setRow B (lay (hmid L (post.take tk)) 0 (u32s (comp (stOf L) (leftOf L ++ post.take tk)).list)).toArray) := (hO4.trans (Only.of_below B hN5)).trans (Only.setRow _ _ _)
        have hl6 : (lay (hmid L (post.take tk)) 0 (u32s (comp (stOf L) (leftOf L ++ post.take tk)).list)).length = 73 := by
          unfold lay
          rw [List.take_zero, List.nil_append, List.length_append, List.length_drop, u32s_length, list_len, hmid_len _ _ (by rw [HCT.out]; exact hfull)]
        have HL6 := Lib.hid hl6
        clear hRz hO4 hmw hml hlf hlfb hkz hl6
        generalize w5.setRow B (lay (hmid L (post.take tk)) 0 (u32s (comp (stOf L) (leftOf L ++ post.take tk)).list)).toArray = w6 at hR6 hO6 ⊢
        clear hN5 w5 wz
        go_wp2_with (first
          | (with_reducible refine arm_build (o := ⟨some 52, _, _, _, _, _⟩) rfl _ _ rfl (u8s (List.replicate 64 0)) (by kernel_rfl) ?_)
          | ((with_reducible refine arm_store (o := ⟨none, _, _, _, _, _⟩) rfl _ _ _ rfl B 8 rfl (u8s (List.replicate 64 0)) rfl _ _ hR6 (by rw [u8s_length, List.length_replicate, HL6.out]; omega) (u8s_one _) (by rw [u8s_length, List.length_replicate]; exact sz42) ?_); intro w7 hR7 hO7 hS7))
        simp only [Act.put]
        go_roundw
        case rel => exact wr_step HBS.out (by rw [HL.out]; exact hR7.congr (hc_full L (post.take tk) (by rw [HCT.out]; exact hfull))) hO (hO6.trans hO7) hrg hgB hpost hq2.out ht1 hc1
        case measure => simp only [sliceLen]; omega
      · have hz : ((((L.length : Int) + (tk : Int)) % 64) == 0) = false := beq_eq_false_iff_ne.2 (by omega)
        clear hneg
        go_wp2_with (first
          | (with_reducible refine arm_sliceLow (o := ⟨some 18, _, _, _, _, _⟩) rfl _ _ _ rfl 64 5 (by kernel_rfl) (by kernel_rfl) B 8 rfl .u64 _ rfl (L.length % 64) (by omega) (by omega) ?_)
          | ((with_reducible refine arm_copy (o := ⟨some 20, _, _, _, _, _⟩) rfl _ _ _ _ rfl 5 (by kernel_rfl) (by kernel_rfl) B (8 + L.length % 64) _ _ rfl g o _ _ rfl (u8s (post.take tk)) tk (by rw [u8s_length, HCT.out]) HT.out hrc _ _ hR (by rw [u8s_length, HCT.out, hcells_len]; omega) (u8s_one _) ?_); intro w2 hR2 hO2 hS2; have hcc2 := hR2.cell (show (lay (hcells L) (8 + L.length % 64) (u8s (post.take tk)))[72]? = some (.int .u64 (L.length : Int)) from lay_count L _ (by rw [HCT.out]; exact ht2)))
          | ((with_reducible refine arm_store1 (o := ⟨none, _, _, _, _, _⟩) rfl _ _ _ rfl B 72 rfl .u64 _ rfl (by kernel_rfl) _ _ hR2 (by rw [lay_len L _ (by rw [HCT.out]; exact ht2)]; omega) ?_); intro w3 hR3 hO3 hS3; have hcc3 := hR3.cell (set_get _ _ 72 (by rw [lay_len L _ (by rw [HCT.out]; exact ht2)]; omega)))
          | ((with_reducible refine arm_reslice (o := ⟨some 32, _, _, _, _, _⟩) rfl _ _ _ rfl 5 (by kernel_rfl) (by kernel_rfl) g o _ _ rfl .i64 _ rfl tk rfl ht1 hc1 ?_); intro q2 hq2))
        go_roundw
        case rel => exact wr_step HBS.out (by rw [HL.out]; exact hR3.congr (by have := hc_keep L (post.take tk) (by rw [HCT.out]; omega); rw [HCT.out] at this; exact this)) hO (hO2.trans hO3) hrg hgB hpost hq2.out ht1 hc1
        case measure => simp only [sliceLen]; omega
end Go.Proofs.YtnjmocobncncdaaDoor.Sha

/-
  The contracts of sha's end, Sum and Of, over this seat's translation: the digest of what was written.
-/
namespace Go.Proofs.YtnjmocobncncdaaDoor.Sha
open Go.ChangeShapes Go.WideShapes Go.ChangeAt Go.RowKit Go.Proofs.YtnjmocobncncdaaDoor.Num Go.Proofs.YtnjmocobncncdaaDoor.Mem Go.Proofs.YtnjmocobncncdaaDoor.Bt
set_option linter.unusedVariables false

theorem z52 : Mem.Zero Tryd.prog 140 (u8s (List.replicate 128 0)) := by unfold Mem.Zero; kernel_rfl
theorem end_plain (s : Nat) (hi lo : List Nat) (h9 : 9 ≤ s) (h128 : s ≤ 128) (hh : hi.length = 4) (hl : lo.length = 4) :
    lay (lay ((u8s (List.replicate 128 0)).set 0 (.int .u8 128)) (s - 8) (u8s hi)) (s - 4) (u8s lo) = u8s (128 :: (List.replicate (s - 9) 0 ++ (hi ++ lo)) ++ List.replicate (128 - s) 0) := by
  have e0 : (u8s (List.replicate 128 0)).set 0 (.int .u8 128) = u8s (128 :: List.replicate 127 0) := rfl
  have e1 : (128 :: List.replicate 127 0).take (s - 8) = 128 :: List.replicate (s - 9) 0 := by
    rw [show s - 8 = (s - 9) + 1 from by omega, List.take_succ_cons, List.take_replicate, Nat.min_eq_left (by omega)]
  have e2 : (128 :: List.replicate 127 0).drop (s - 8 + 4) = List.replicate (128 - (s - 4)) 0 := by
    rw [show s - 8 + 4 = (s - 5) + 1 from by omega, List.drop_succ_cons, List.drop_replicate]; congr 1; omega
  have e3 : (128 :: List.replicate (s - 9) 0 ++ hi).length = s - 4 := by
    rw [List.length_append, List.length_cons, List.length_replicate, hh]; omega
  rw [e0, lay_u8s, hh, e1, e2, lay_u8s, hl, List.take_append_of_le_length (by omega), List.take_of_length_le (by omega), List.drop_append, List.drop_eq_nil_of_le (by omega), List.nil_append, e3, List.drop_replicate]
  rw [show 128 - (s - 4) - (s - 4 + 4 - (s - 4)) = 128 - s from by omega]
  simp
theorem bytes4_len (x : Nat) : (bytes4 x).length = 4 := rfl
theorem bytes4_lt (x : Nat) : AllLt 256 (bytes4 x) := by
  intro y hy
  simp only [bytes4, List.mem_cons, List.not_mem_nil, or_false] at hy
  rcases hy with rfl | rfl | rfl | rfl <;> exact Nat.mod_lt _ (by omega)
theorem ending_len (n : Nat) : (ending n).length = (119 - n % 64) % 64 + 9 := by
  simp [ending, bytes8, bytes4_len]
theorem ending_lt (n : Nat) : AllLt 256 (ending n) := by
  intro y hy
  simp only [ending, bytes8, List.mem_cons, List.mem_append, List.mem_replicate] at hy
  rcases hy with rfl | ⟨_, rfl⟩ | hy | hy
  · omega
  · omega
  · exact bytes4_lt _ y hy
  · exact bytes4_lt _ y hy
set_option maxHeartbeats 1000000 in
set_option maxRecDepth 100000 in
theorem end_any (l : List Nat) (B : Nat) (w : World) (hr : Row w B 122 (hcells l)) (hl : AllLt 256 l) (hsz : l.length ≤ 900000) (hk : w.rangeAt 0 0 (u32s ks)) (hkB : 0 ≠ B) :
    Calls Tryd.prog 57 #[.pointer (some ⟨B, 0, none⟩)] w fun e w' => e = .returned (.tuple #[]) ∧ Row w' B 122 (hcells (padded l)) ∧ Only B w w' := by
  have hc := hr.cell (hcells_count l)
  have HK := Lib.hid hk; have HKB := Lib.hid hkB
  have hk1 : 0 < w.heap.size := range_lt hk (by simp [u32s, ks])
  have hBl := hr.lt
  clear hk hkB
  obtain ⟨s, hs⟩ : ∃ s : Nat, s = (119 - l.length % 64) % 64 + 9 := ⟨_, rfl⟩
  have hel : (ending l.length).length = s := by rw [ending_len, hs]
  have hs9 : 9 ≤ s := by omega
  have hs128 : s ≤ 128 := by omega
  have hee : ending l.length = 128 :: (List.replicate (s - 9) 0 ++ (bytes4 (8 * l.length / 4294967296) ++ bytes4 (8 * l.length % 4294967296))) := by
    unfold ending bytes8; rw [show s - 9 = (119 - l.length % 64) % 64 from by omega]
  have HEE := Lib.hid hee; have HEL := Lib.hid hel; clear hee hel
  have hhi : 8 * l.length / 4294967296 < 4294967296 := by omega
  have hlo : 8 * l.length % 4294967296 < 4294967296 := by omega
  obtain ⟨x, hsv⟩ : ∃ x : Int, ((64 : Int) - (l.length : Int) % 64 < 9 → x = 64 - (l.length : Int) % 64 + 64) ∧ (¬ (64 : Int) - (l.length : Int) % 64 < 9 → x = 64 - (l.length : Int) % 64) ∧ x = (s : Int) := ⟨(s : Int), by omega, by omega, rfl⟩
  have HSV := Lib.hid hsv
  clear hs hsv
  by_cases h9 : (64 : Int) - (l.length : Int) % 64 < 9
  all_goals
    go_enter Tryd.func57, Tryd.ntmps57
    go_wp2_with (first
      | ((with_reducible refine arm_alloc (o := ⟨some 3, _, _, _, _, _⟩) rfl _ rfl _ z52 ?_); intro E w1 hE hR1 hN1)
      | ((with_reducible refine arm_store1 (o := ⟨none, _, _, _, _, _⟩) rfl _ _ _ rfl E 0 rfl .u8 128 rfl (by kernel_rfl) _ _ hR1 (by rw [u8s_length, List.length_replicate]; omega) ?_); intro w2 hR2 hO2 hS2; have hBE : B ≠ E := (by have := hE.out; omega); have hrB2 := (hr.old hN1.below).only hO2 hBE; have hc2 := hrB2.cell (hcells_count l))
      | (go_at_call 76; rw [show (8 : Int) * (l.length : Int) = ((8 * l.length : Nat) : Int) from by omega]; (refine (split_any (8 * l.length) _ (by omega)).mono ?_); rintro e w' ⟨rfl, rfl⟩)
      | (with_reducible refine arm_sliceLow (o := ⟨some 29, _, _, _, _, _⟩) rfl _ _ _ rfl 128 5 (by kernel_rfl) (by kernel_rfl) E 0 rfl .i64 _ rfl (s - 8) (by have := HSV.out; omega) (by omega) ?_))
    refine (put_any E (s - 8) _ _ _ _ _ _ (by omega) (by omega) hhi hR2 (by rw [List.length_set, u8s_length, List.length_replicate]; omega)).mono ?_
    rintro e w3 ⟨rfl, hR3, hO3, hS3⟩
    go_wp2_with (first
      | (with_reducible refine arm_sliceLow (o := ⟨some 34, _, _, _, _, _⟩) rfl _ _ _ rfl 128 5 (by kernel_rfl) (by kernel_rfl) E 0 rfl .i64 _ rfl (s - 4) (by have := HSV.out; omega) (by omega) ?_))
    refine (put_any E (s - 4) _ _ _ _ _ _ (by omega) (by omega) hlo hR3 (by unfold lay; simp only [List.length_append, List.length_take, List.length_drop, List.length_set, u8s_length, List.length_replicate, bytes4_len]; omega)).mono ?_
    rintro e w4 ⟨rfl, hR4, hO4, hS4⟩
    have hR4' := hR4.congr (end_plain s _ _ hs9 hs128 (bytes4_len _) (bytes4_len _))
    clear hR4 hR3 hR2 hR1
    go_wp2_with (first
      | (with_reducible refine arm_sliceHigh (o := ⟨some 39, _, _, _, _, _⟩) rfl _ _ _ rfl 128 5 (by kernel_rfl) (by kernel_rfl) E 0 rfl .i64 _ rfl (ending l.length).length (by rw [HEL.out]; have := HSV.out; omega) (by rw [HEL.out]; omega) (by omega) ?_))
    have hO24 : Only E w1 w4 := (hO2.trans hO3).trans hO4
    have hw1 : w.heap.size ≤ w1.heap.size := by rw [hN1.size]; omega
    have hEe := hE.out
    refine (write_any l (ending l.length) B 128 _ w4 ((hr.old hN1.below).only hO24 hBE) hl (ending_lt _) (by rw [HEL.out]; omega) (by rw [HEL.out]; omega)
      (fun _ => ⟨E, 0, rfl, Ne.symm hBE, hR4'.range 0 _ (fun j v hj => by
        rw [Nat.zero_add, u8s_append, List.getElem?_append_left (by rw [← HEE.out]; exact (List.getElem?_eq_some_iff.1 hj).1), ← HEE.out]; exact hj)⟩)
      (range_block (range_block HK.out (hN1.below.block _ hk1)) (hO24.block _ (by omega) (by omega))) HKB.out).mono ?_
    rintro e w5 ⟨rfl, hR5, hO5⟩
    go_wp2_with fail
    go_end0
    refine ⟨rfl, hR5, ⟨?_, ?_, ?_, ?_, ?_⟩⟩
    · exact hO5.os.trans (hO24.os.trans hN1.below.os)
    · exact hO5.tape.trans (hO24.tape.trans hN1.below.tape)
    · exact hO5.output.trans (hO24.output.trans hN1.below.output)
    · exact Nat.le_trans hw1 (Nat.le_trans hO24.size hO5.size)
    · intro k hkk hkB
      have h24 := hO24.size
      rw [hO5.block k (by omega) hkB, hO24.block k (by omega) (by omega), hN1.below.block k hkk]

theorem z25 : Mem.Zero Tryd.prog 29 (u8s (List.replicate 32 0)) := by unfold Mem.Zero; kernel_rfl
theorem sz25 : Sized Tryd.prog 29 32 := ⟨.array 32 5, by kernel_rfl, rfl, by kernel_rfl⟩
def hzero : List Value := u32s (List.replicate 8 0) ++ (u8s (List.replicate 64 0) ++ [.int .u64 0])
theorem z44 : Mem.Zero Tryd.prog 122 hzero := by unfold Mem.Zero; kernel_rfl
theorem sz44 : Sized Tryd.prog 122 73 := ⟨.struct (Tryd.prog.fieldsOf 122), by kernel_rfl, rfl, by kernel_rfl⟩
theorem hcells_one (l : List Nat) : OneCells (hcells l) := by
  intro v hv
  rcases List.mem_append.1 hv with h | h
  · exact u32s_one _ v h
  · rcases List.mem_append.1 h with h | h
    · exact u8s_one _ v h
    · simp at h; subst h; rfl
theorem hzero_len : hzero.length = 73 := rfl
/-- The digest's bytes so far, and zeros. -/
def fillO (s : S8) (k : Nat) : List Nat := (s.list.take k).flatMap bytes4 ++ List.replicate (32 - 4 * k) 0
theorem take_list_len (s : S8) (k : Nat) (hk : k ≤ 8) : (s.list.take k).length = k := by rw [List.length_take, list_len]; omega
theorem flat_len (m : List Nat) : (m.flatMap bytes4).length = 4 * m.length := by
  induction m with
  | nil => rfl
  | cons x m ih => rw [List.flatMap_cons, List.length_append, ih, bytes4_len, List.length_cons]; omega
theorem fillO_step (s : S8) (k : Nat) (hk : k < 8) : lay (u8s (fillO s k)) (4 * k) (u8s (bytes4 (s.list.getD k 0))) = u8s (fillO s (k + 1)) := by
  have hA : ((s.list.take k).flatMap bytes4).length = 4 * k := by rw [flat_len, take_list_len s k (by omega)]
  have hk2 : k < s.list.length := by rw [list_len]; exact hk
  have ht : s.list.take (k + 1) = s.list.take k ++ [s.list.getD k 0] := by
    rw [List.take_succ_eq_append_getElem hk2, List.getD_eq_getElem?_getD, List.getElem?_eq_getElem hk2]; rfl
  rw [lay_u8s, bytes4_len]
  unfold fillO
  rw [List.take_append_of_le_length (by omega), List.take_of_length_le (by omega), List.drop_append, hA, List.drop_eq_nil_of_le (by omega), List.nil_append, List.drop_replicate, ht, List.flatMap_append]
  rw [show 32 - 4 * k - (4 * k + 4 - 4 * k) = 32 - 4 * (k + 1) from by omega]
  simp
theorem fillO_len (s : S8) (k : Nat) (hk : k ≤ 8) : (fillO s k).length = 32 := by
  unfold fillO; rw [List.length_append, flat_len, take_list_len s k hk, List.length_replicate]; omega
theorem fillO_all (s : S8) : fillO s 8 = outOf s := by
  unfold fillO outOf; rw [List.take_of_length_le (by rw [list_len]; omega)]; simp
theorem outOf_len (s : S8) : (outOf s).length = 32 := by rw [← fillO_all, fillO_len s 8 (by omega)]
theorem list_lt {s : S8} (h : Bd s) : AllLt 4294967296 s.list := by
  obtain ⟨a, b, c, d, e, f, g, h⟩ := h
  intro x hx
  simp only [S8.list, List.mem_cons, List.not_mem_nil, or_false] at hx
  rcases hx with rfl | rfl | rfl | rfl | rfl | rfl | rfl | rfl <;> assumption
/-- What holds in Sum's loop. -/
structure SmRel (w : World) (s : S8) (k R U : Nat) (wr : World) : Prop where
  rr : Row wr R 29 (u8s (List.replicate 32 0))
  ru : Row wr U 29 (u8s (fillO s k))
  bel : Below w.heap.size w wr

set_option maxHeartbeats 1000000 in
set_option maxRecDepth 100000 in
theorem sum_any (l : List Nat) (B : Nat) (w : World) (hr : Row w B 122 (hcells l)) (hl : AllLt 256 l) (hsz : l.length ≤ 900000) (hk : w.rangeAt 0 0 (u32s ks)) :
    Calls Tryd.prog 45 #[.pointer (some ⟨B, 0, none⟩)] w fun e w' => e = .returned (.agg (u8s (digest l)).toArray) ∧ Below w.heap.size w w' := by
  have HK := Lib.hid hk
  have hk1 : 0 < w.heap.size := range_lt hk (by simp [u32s, ks])
  clear hk
  go_enter Tryd.func45, Tryd.ntmps45
  go_wp2_with (first
    | ((with_reducible refine arm_alloc (o := ⟨some 2, _, _, _, _, _⟩) rfl _ rfl _ z25 ?_); intro R w1 hRe hR1 hN1)
    | (with_reducible refine arm_load (o := ⟨some 9, _, _, _, _, _⟩) rfl _ _ rfl B 0 rfl (hcells l) ((hr.old hN1.below).range 0 _ (fun j v hj => by rw [Nat.zero_add]; exact hj)) (by rw [hcells_len]; exact sz44) ?_)
    | ((with_reducible refine arm_alloc (o := ⟨some 3, _, _, _, _, _⟩) rfl _ rfl _ z44 ?_); intro La w2 hLa hR2 hN2)
    | ((with_reducible refine arm_store (o := ⟨none, _, _, _, _, _⟩) rfl _ _ _ rfl La 0 rfl (hcells l) rfl _ _ hR2 (by rw [hcells_len, hzero_len]; omega) (hcells_one _) (by rw [hcells_len]; exact sz44) ?_); intro w3 hR3 hO3 hS3))
  have e1 := hRe.out; have e2 := hLa.out; have z1 := hN1.size; have z2 := hN2.size; have z3 := hS3.out
  have bel3 : Below w.heap.size w w3 := below_only (below_step hN1.below (by omega) hN2.below) hO3 (by omega) (by omega)
  have hk3 : w3.rangeAt 0 0 (u32s ks) := range_block HK.out (bel3.block _ hk1)
  have hRR3 : Row w3 R 29 (u8s (List.replicate 32 0)) := (hR1.old hN2.below).only hO3 (by omega)
  have n1 : 0 ≠ La := by omega
  have n2 : R ≠ La := by omega
  have lLa : w.heap.size ≤ La := by omega
  have lR : w.heap.size ≤ R := by omega
  have z3' : w.heap.size ≤ w3.heap.size := by omega
  have rlt : R < w3.heap.size := hRR3.lt
  clear e1 e2 z1 z2 z3 hRe hLa hR1 hN1 hR2 hN2 hO3 hS3 w1 w2
  have N1 := Lib.hid n1; have N2 := Lib.hid n2; clear n1 n2
  refine (end_any l La w3 (hR3.congr (lay_all _ _ (by rw [hcells_len, hzero_len]))) hl hsz hk3 N1.out).mono ?_
  rintro e w4 ⟨rfl, hR4, hO4⟩
  have bel4 : Below w.heap.size w w4 := below_only bel3 hO4 lLa z3'
  have hRR4 := hRR3.only hO4 N2.out
  have z4 : w.heap.size ≤ w4.heap.size := bel4.size
  clear hR3 bel3 hk3 hRR3 hO4 z3' rlt w3
  have hst := stOf_bd (padded l)
  have hdg : Hid (digest l = outOf (stOf (padded l))) := Lib.hid rfl
  have hwr := hR4.range 0 _ (hcells_words (padded l))
  generalize stOf (padded l) = s at hst hdg hwr
  go_wp2_with (first
    | ((with_reducible refine arm_alloc (o := ⟨some 4, _, _, _, _, _⟩) rfl _ rfl _ z25 ?_); intro U w5 hU hR5 hN5)
    | (with_reducible refine arm_load (o := ⟨some 12, _, _, _, _, _⟩) rfl _ _ rfl La 0 rfl (u32s s.list) (range_block hwr (hN5.below.block _ hR4.lt)) (by rw [u32s_length, list_len]; exact sz40) ?_))
  have lU : w.heap.size ≤ U := by have := hU.out; omega
  have n3 : R ≠ U := by have := hU.out; have := hRR4.lt; omega
  have h0 : SmRel w s 0 R U w5 := ⟨hRR4.old hN5.below, hR5, below_step bel4 z4 hN5.below⟩
  have N3 := Lib.hid n3
  clear hR4 bel4 hRR4 z4 hwr hU hR5 hN5 n3 w4
  go_loopw [13] (fun i wr => ∃ k : Nat, k ≤ 8 ∧ i = .int .i64 k ∧ SmRel w s k R U wr) (fun i _ => 8 - (intOf i).toNat)
  case atStart => exact ⟨0, by omega, rfl, h0⟩
  case round =>
    clear h0
    obtain ⟨k, hk, rfl, hS⟩ := hrel
    have hws : w.heap.size ≤ wr.heap.size := hS.bel.size
    by_cases hlt : k < 8
    · have hbx := getD_lt (list_lt hst) (by omega) k
      go_wp2_with (first
        | (with_reducible refine arm_index (o := ⟨some 16, _, _, _, _, _⟩) rfl _ _ _ rfl 8 30 (by kernel_rfl) .u32 (by kernel_rfl) (by kernel_rfl) (u32s s.list) rfl .i64 k rfl hlt _ (u32s_get (by rw [list_len]; exact hlt)) ?_)
        | (with_reducible refine arm_sliceLow (o := ⟨some 19, _, _, _, _, _⟩) rfl _ _ _ rfl 32 5 (by kernel_rfl) (by kernel_rfl) U 0 rfl .i64 _ rfl (4 * k) (by omega) (by omega) ?_)
        | (go_at_call 58; (refine (put_any U (4 * k) _ _ _ _ _ _ (by omega) (by omega) hbx hS.ru (by rw [u8s_length, fillO_len s k (by omega)]; omega)).mono ?_); rintro e w6 ⟨rfl, hR6, hO6, hS6⟩))
      go_roundw
      case rel => exact ⟨k + 1, by omega, by go_num, ⟨hS.rr.only hO6 N3.out, hR6.congr (fillO_step s k hlt), below_only hS.bel hO6 lU hws⟩⟩
      case measure => simp [intOf]; omega
    · obtain rfl : k = 8 := by omega
      go_wp2_with (first
        | (with_reducible refine arm_load (o := ⟨some 23, _, _, _, _, _⟩) rfl _ _ rfl U 0 rfl (u8s (fillO s 8)) (hS.ru.range 0 _ (fun j v hj => by rw [Nat.zero_add]; exact hj)) (by rw [u8s_length, fillO_len s 8 (by omega)]; exact sz25) ?_)
        | ((with_reducible refine arm_store (o := ⟨none, _, _, _, _, _⟩) rfl _ _ _ rfl R 0 rfl (u8s (fillO s 8)) rfl _ _ hS.rr (by rw [u8s_length, fillO_len s 8 (by omega), u8s_length, List.length_replicate]; omega) (u8s_one _) (by rw [u8s_length, fillO_len s 8 (by omega)]; exact sz25) ?_); intro w7 hR7 hO7 hS7))
      refine bodyPost_ret (v := .agg (u8s (fillO s 8)).toArray) (result_row (p := 2) (ty := 29) (u := 29) (by kernel_rfl) _ _ R _ rfl (hR7.congr (lay_all _ _ (by rw [u8s_length, u8s_length, fillO_len s 8 (by omega)]; simp))) (by rw [u8s_length, fillO_len s 8 (by omega)]; exact sz25)) rfl ⟨by rw [hdg.out, fillO_all], below_only hS.bel hO7 lR hws⟩

/-- Of: the digest of a slice's bytes. -/
theorem of_any (bs : List Nat) (cap : Nat) (p : Option Addr) (w : World) (hb : AllLt 256 bs) (hsz : bs.length ≤ 900000) (hcap : bs.length ≤ cap)
    (hp : bs ≠ [] → ∃ g o, p = some ⟨g, o, none⟩ ∧ w.rangeAt g o (u8s bs)) (hk : w.rangeAt 0 0 (u32s ks)) :
    Calls Tryd.prog 31 #[.slice p bs.length cap] w fun e w' => e = .returned (.agg (u8s (digest bs)).toArray) ∧ Below w.heap.size w w' := by
  have HK := Lib.hid hk
  have HP := Lib.hid hp
  have hk1 : 0 < w.heap.size := range_lt hk (by simp [u32s, ks])
  clear hk hp
  go_enter Tryd.func31, Tryd.ntmps31
  go_wp2_with (first
    | ((with_reducible refine arm_alloc (o := ⟨some 2, _, _, _, _, _⟩) rfl _ rfl _ z25 ?_); intro R w1 hRe hR1 hN1))
  refine (new_any w1).mono ?_
  rintro e w2 ⟨rfl, hR2, hN2⟩
  have e1 := hRe.out; have z1 := hN1.size; have z2 := hN2.size
  have bel2 : Below w.heap.size w w2 := below_step hN1.below (by omega) hN2.below
  have hRR2 := hR1.old hN2.below
  have lB : w.heap.size ≤ w1.heap.size := by omega
  have lR : w.heap.size ≤ R := by omega
  have n1 : R ≠ w1.heap.size := by omega
  have n2 : 0 ≠ w1.heap.size := by omega
  have z2' : w.heap.size ≤ w2.heap.size := by omega
  generalize w1.heap.size = B at hR2 lB n1 n2 ⊢
  have N1 := Lib.hid n1; have N2 := Lib.hid n2
  clear e1 z1 z2 hRe hR1 hN1 hN2 n1 n2 w1
  go_wp2_with fail
  refine (write_any [] bs B cap p w2 hR2 (fun x hx => by cases hx) hb (by simp; omega) hcap (fun hne => by
    obtain ⟨g, o, e, hrg⟩ := HP.out hne
    have hg := range_lt hrg (by intro h; apply hne; simpa [u8s] using h)
    exact ⟨g, o, e, by omega, range_block hrg (bel2.block g hg)⟩) (range_block HK.out (bel2.block _ hk1)) N2.out).mono ?_
  rintro e w3 ⟨rfl, hR3, hO3⟩
  rw [List.nil_append] at hR3
  have bel3 : Below w.heap.size w w3 := below_only bel2 hO3 lB z2'
  have hRR3 := hRR2.only hO3 N1.out
  have z3 := bel3.size
  clear bel2 hRR2 z2' hR2 hO3 w2
  go_wp2_with fail
  refine (sum_any bs B w3 hR3 hb hsz (range_block HK.out (bel3.block _ hk1))).mono ?_
  rintro e w4 ⟨rfl, hN4⟩
  have bel4 : Below w.heap.size w w4 := below_step bel3 z3 hN4
  have hRR4 := hRR3.old hN4
  have z4 := bel4.size
  go_wp2_with (first
    | ((with_reducible refine arm_store (o := ⟨none, _, _, _, _, _⟩) rfl _ _ _ rfl R 0 rfl (u8s (digest bs)) rfl _ _ hRR4 (by rw [u8s_length, u8s_length, List.length_replicate]; unfold digest; rw [outOf_len]; omega) (u8s_one _) (by rw [u8s_length]; unfold digest; rw [outOf_len]; exact sz25) ?_); intro w7 hR7 hO7 hS7))
  exact bodyPost_ret (v := .agg (u8s (digest bs)).toArray) (result_row (p := 2) (ty := 29) (u := 29) (by kernel_rfl) _ _ R _ rfl (hR7.congr (lay_all _ _ (by rw [u8s_length, u8s_length, List.length_replicate]; unfold digest; rw [outOf_len]))) (by rw [u8s_length]; unfold digest; rw [outOf_len]; exact sz25)) rfl ⟨rfl, below_only bel4 hO7 lR z4⟩
end Go.Proofs.YtnjmocobncncdaaDoor.Sha

/-
  '==' and '!=' between two digests that are the same, over this seat's translation.
-/
namespace Go.Proofs.YtnjmocobncncdaaDoor.Sha
open Go.RowKit Go.Proofs.YtnjmocobncncdaaDoor.Mem Go.Proofs.YtnjmocobncncdaaDoor.Bt
set_option linter.unusedVariables false

theorem part_u8s (xs : List Nat) (i : Nat) (hi : i < xs.length) (w : World) : (part 5 (u8s xs).toArray i).run Tryd.prog w = .ok (.int .u8 ((xs.getD i 0 : Nat) : Int)) w := by
  have hu : Tryd.prog.underlying 5 = some (.int .u8) := by kernel_rfl
  have hg := u8s_get hi
  simp [part, isAgg, run_underlying hu, hg]
section
variable {o : Oper} {a : Act}
end
end Go.Proofs.YtnjmocobncncdaaDoor.Sha

/-
  '==' and '!=' between any two digests. Over this seat's translation.
-/
namespace Go.Proofs.YtnjmocobncncdaaDoor.Sha
open Go.RowKit Go.Proofs.YtnjmocobncncdaaDoor.Mem Go.Proofs.YtnjmocobncncdaaDoor.Bt
set_option linter.unusedVariables false

theorem eq_bytes (d m n : Nat) (w : World) : (Op.equalIn (d + 1) 5 (.int .u8 (m : Int)) (.int .u8 (n : Int))).run Tryd.prog w = .ok (decide (m = n)) w := by
  have hu : Tryd.prog.underlying 5 = some (.int .u8) := by kernel_rfl
  have hb : ((m : Int) == (n : Int)) = decide (m = n) := by
    by_cases h : m = n
    · rw [h, decide_eq_true rfl, beq_self_eq_true]
    · rw [decide_eq_false h]; exact beq_eq_false_iff_ne.2 (by omega)
  rw [run_equalIn_int w d 5 .u8 .u8 m n hu, hb]
theorem getD_ext {xs ys : List Nat} (h : xs.length = ys.length) (hg : ∀ i, i < xs.length → xs.getD i 0 = ys.getD i 0) : xs = ys := by
  apply List.ext_getElem h
  intro i h1 h2
  have := hg i h1
  rwa [List.getD_eq_getElem?_getD, List.getD_eq_getElem?_getD, List.getElem?_eq_getElem h1, List.getElem?_eq_getElem h2] at this
theorem eq_hash2 (d : Nat) (t : TypeId) (hu : Tryd.prog.underlying t = some (.array 32 5)) (xs ys : List Nat) (hx : xs.length = 32) (hy : ys.length = 32) (w : World) :
    (Op.equalIn (d + 2) t (.agg (u8s xs).toArray) (.agg (u8s ys).toArray)).run Tryd.prog w = .ok (decide (xs = ys)) w := by
  have hs : (sizeOf 5).run Tryd.prog w = .ok 1 w := by kernel_rfl
  unfold Op.equalIn
  simp only [Sem.run_bind, run_underlying hu, Result.andThen_ok, hs]
  have key : ∀ l : List Nat, (∀ i ∈ l, i < 32) → (forIn (m := Sem) l ((none : Option Bool), ()) fun i __s => do
      let a ← part 5 (u8s xs).toArray (i * 1)
      let b ← part 5 (u8s ys).toArray (i * 1)
      let r ← Op.equalIn (d + 1) 5 a b
      if (!r) = true then pure (ForInStep.done (some false, ())) else pure (ForInStep.yield (none, ()))).run Tryd.prog w = .ok (if ∀ i ∈ l, xs.getD i 0 = ys.getD i 0 then (none, ()) else (some false, ())) w := by
    intro l
    induction l with
    | nil => intro _; simp
    | cons i l ih =>
      intro h
      have hi := h i (by simp)
      rw [List.forIn_cons]
      simp only [Sem.run_bind, Nat.mul_one, part_u8s xs i (by omega) w, part_u8s ys i (by omega) w, Result.andThen_ok, eq_bytes]
      by_cases he : xs.getD i 0 = ys.getD i 0
      · simp only [he, decide_true, Bool.not_true, Bool.false_eq_true, if_false, Sem.run_pure, Result.andThen_ok]
        have := ih (fun j hj => h j (by simp [hj]))
        simp only [Nat.mul_one] at this
        rw [this]
        simp only [List.mem_cons, forall_eq_or_imp, he, true_and]
      · simp only [he, decide_false, Bool.not_false, if_true, Sem.run_pure, Result.andThen_ok]
        rw [if_neg (fun hc => he (hc i (by simp)))]
  rw [Std.Legacy.Range.forIn_eq_forIn_range']
  rw [key _ (fun i hi => by simp [Std.Legacy.Range.size] at hi; omega)]
  by_cases he : xs = ys
  · subst he; simp
  · have hne : ¬ ∀ i ∈ List.range' 0 (Std.Legacy.Range.size ⟨0, 32, 1, by decide⟩) 1, xs.getD i 0 = ys.getD i 0 := fun hc => he (getD_ext (by omega) (fun i hi => hc i (by simp [Std.Legacy.Range.size]; omega)))
    rw [if_neg hne]
    simp [he]
theorem run_eql2 (xs ys : List Nat) (hx : xs.length = 32) (hy : ys.length = 32) (w : World) : (binOp .eql 29 (.agg (u8s xs).toArray) (.agg (u8s ys).toArray)).run Tryd.prog w = .ok (.bool (decide (xs = ys))) w := by
  simp only [binOp, Op.equal, Op.maxDepth, Sem.run_bind, eq_hash2 9998 29 (by kernel_rfl) xs ys hx hy w, Result.andThen_ok, Sem.run_pure]
theorem run_neq2 (xs ys : List Nat) (hx : xs.length = 32) (hy : ys.length = 32) (w : World) : (binOp .neq 29 (.agg (u8s xs).toArray) (.agg (u8s ys).toArray)).run Tryd.prog w = .ok (.bool (!decide (xs = ys))) w := by
  simp only [binOp, Op.equal, Op.maxDepth, Sem.run_bind, eq_hash2 9998 29 (by kernel_rfl) xs ys hx hy w, Result.andThen_ok, Sem.run_pure]
section
variable {o : Oper} {a : Act}
theorem run_op_eql2 (x y : Operand) (t' : TypeId) (ho : o.op = .binOp .eql 29 x y t') (xs ys : List Nat) (hlx : xs.length = 32) (hly : ys.length = 32) (hx : a.eval x = .agg (u8s xs).toArray) (hy : a.eval y = .agg (u8s ys).toArray) (w : World) : (execOp a.eval o).run Tryd.prog w = .ok (.value (.bool (decide (xs = ys)))) w := by
  unfold execOp
  simp only [ho, hx, hy, Sem.run_bind, run_eqGuard_agg w _ _ _ _ _ _ (show Tryd.prog.eqGuardType Tryd.prog.depth 29 = false by kernel_rfl), Result.andThen_ok, run_eql2 xs ys hlx hly w, Sem.run_pure]
theorem run_op_neq2 (x y : Operand) (t' : TypeId) (ho : o.op = .binOp .neq 29 x y t') (xs ys : List Nat) (hlx : xs.length = 32) (hly : ys.length = 32) (hx : a.eval x = .agg (u8s xs).toArray) (hy : a.eval y = .agg (u8s ys).toArray) (w : World) : (execOp a.eval o).run Tryd.prog w = .ok (.value (.bool (!decide (xs = ys)))) w := by
  unfold execOp
  simp only [ho, hx, hy, Sem.run_bind, run_eqGuard_agg w _ _ _ _ _ _ (show Tryd.prog.eqGuardType Tryd.prog.depth 29 = false by kernel_rfl), Result.andThen_ok, run_neq2 xs ys hlx hly w, Sem.run_pure]
end
end Go.Proofs.YtnjmocobncncdaaDoor.Sha

/-
  Structs of a text and a digest as keys of maps. Over this seat's translation.
-/
namespace Go.Proofs.YtnjmocobncncdaaDoor.Sha
open Go.RowKit Go.Proofs.YtnjmocobncncdaaDoor.Mem Go.Proofs.YtnjmocobncncdaaDoor.Bt
set_option linter.unusedVariables false

end Go.Proofs.YtnjmocobncncdaaDoor.Sha
