import Derived.WalkKit
import Derived.PlainAid
import Derived.Test.YtghogoijjaiccaaNumAll
import Derived.Test.YtghogoijjaiccaaRows
import Derived.Test.YtghogoijjaiccaaBytAll
import Derived.ProofKit
import Derived.OpenShut
import Derived.Handy
import Derived.Lib.Hide
import Derived.Deep.QuietTactic
import Derived.BigQuiet
import Derived.StillTailTactics
import Derived.Test.YtghogoijjaiccaaMemAll
import Derived.Laws.StructEq
/-
  The digest of bytes, over natural numbers and lists: what the chapter on sha says, as plain functions. No program, no world.
-/
namespace Go.Proofs.Ytghogoijjaiccaa.Sha

/-- Turned to the right by k of 32 places. -/
def rotr (k n : Nat) : Nat := n / 2 ^ k + n % 2 ^ k * 2 ^ (32 - k)
def sm0 (x : Nat) : Nat := rotr 7 x ^^^ rotr 18 x ^^^ (x / 8)
def sm1 (x : Nat) : Nat := rotr 17 x ^^^ rotr 19 x ^^^ (x / 1024)
def bg0 (x : Nat) : Nat := rotr 2 x ^^^ rotr 13 x ^^^ rotr 22 x
def bg1 (x : Nat) : Nat := rotr 6 x ^^^ rotr 11 x ^^^ rotr 25 x
def chs (x y z : Nat) : Nat := (x &&& y) ||| ((4294967295 - x) &&& z)
def mjr (x y z : Nat) : Nat := (x &&& y) ||| (x &&& z) ||| (y &&& z)
/-- Four bytes, the highest first. -/
def be4 (a b c d : Nat) : Nat := a * 16777216 + b * 65536 + c * 256 + d
def bytes4 (x : Nat) : List Nat := [x / 16777216 % 256, x / 65536 % 256, x / 256 % 256, x % 256]

def wordAt (l : List Nat) (t : Nat) : Nat := be4 (l.getD (4 * t) 0) (l.getD (4 * t + 1) 0) (l.getD (4 * t + 2) 0) (l.getD (4 * t + 3) 0)
/-- The first k numbers of a block. -/
def wordsOf (l : List Nat) (k : Nat) : List Nat := (List.range k).map (wordAt l)
/-- The next number of those that are made. -/
def nextW (w : List Nat) : Nat := (sm1 (w.getD (w.length - 2) 0) + w.getD (w.length - 7) 0 + sm0 (w.getD (w.length - 15) 0) + w.getD (w.length - 16) 0) % 4294967296
def sch : Nat → List Nat → List Nat
  | 0, w => w
  | n + 1, w => sch n w ++ [nextW (sch n w)]
def sched (l : List Nat) : List Nat := sch 48 (wordsOf l 16)

structure S8 where
  a : Nat
  b : Nat
  c : Nat
  d : Nat
  e : Nat
  f : Nat
  g : Nat
  h : Nat
def S8.list (s : S8) : List Nat := [s.a, s.b, s.c, s.d, s.e, s.f, s.g, s.h]
def T1 (s : S8) (k w : Nat) : Nat := s.h + bg1 s.e + chs s.e s.f s.g + k + w
def T2 (s : S8) : Nat := bg0 s.a + mjr s.a s.b s.c
def rnd (s : S8) (k w : Nat) : S8 := ⟨(T1 s k w + T2 s) % 4294967296, s.a, s.b, s.c, (s.d + T1 s k w) % 4294967296, s.e, s.f, s.g⟩
def rnds (ks ws : List Nat) (s : S8) : Nat → S8
  | 0 => s
  | t + 1 => rnd (rnds ks ws s t) (ks.getD t 0) (ws.getD t 0)
/-- The sixty-four numbers. -/
def ks : List Nat := [1116352408, 1899447441, 3049323471, 3921009573, 961987163, 1508970993, 2453635748, 2870763221, 3624381080, 310598401, 607225278, 1426881987, 1925078388, 2162078206, 2614888103, 3248222580, 3835390401, 4022224774, 264347078, 604807628, 770255983, 1249150122, 1555081692, 1996064986, 2554220882, 2821834349, 2952996808, 3210313671, 3336571891, 3584528711, 113926993, 338241895, 666307205, 773529912, 1294757372, 1396182291, 1695183700, 1986661051, 2177026350, 2456956037, 2730485921, 2820302411, 3259730800, 3345764771, 3516065817, 3600352804, 4094571909, 275423344, 430227734, 506948616, 659060556, 883997877, 958139571, 1322822218, 1537002063, 1747873779, 1955562222, 2024104815, 2227730452, 2361852424, 2428436474, 2756734187, 3204031479, 3329325298]
def plus (s r : S8) : S8 := ⟨(s.a + r.a) % 4294967296, (s.b + r.b) % 4294967296, (s.c + r.c) % 4294967296, (s.d + r.d) % 4294967296, (s.e + r.e) % 4294967296, (s.f + r.f) % 4294967296, (s.g + r.g) % 4294967296, (s.h + r.h) % 4294967296⟩
/-- The eight numbers behind one block more. -/
def comp (s : S8) (l : List Nat) : S8 := plus s (rnds ks (sched l) s 64)
def H0 : S8 := ⟨1779033703, 3144134277, 1013904242, 2773480762, 1359893119, 2600822924, 528734635, 1541459225⟩
/-- n whole blocks, one behind the other. -/
def fold64 : Nat → S8 → List Nat → S8
  | 0, s, _ => s
  | n + 1, s, l => fold64 n (comp s (l.take 64)) (l.drop 64)
/-- The eight numbers behind the whole blocks of bytes; the bytes behind them. -/
def stOf (l : List Nat) : S8 := fold64 (l.length / 64) H0 l
def leftOf (l : List Nat) : List Nat := l.drop (64 * (l.length / 64))
/-- Eight bytes, the highest first. -/
def bytes8 (n : Nat) : List Nat := bytes4 (n / 4294967296) ++ bytes4 (n % 4294967296)
/-- What stands behind n bytes. -/
def ending (n : Nat) : List Nat := 128 :: (List.replicate ((119 - n % 64) % 64) 0 ++ bytes8 (8 * n))
def padded (l : List Nat) : List Nat := l ++ ending l.length
def outOf (s : S8) : List Nat := s.list.flatMap bytes4
/-- The digest. -/
def digest (l : List Nat) : List Nat := outOf (stOf (padded l))
end Go.Proofs.Ytghogoijjaiccaa.Sha

/-
  Plain facts for the digest's numbers: bits, turns, bounds. No program, no world.
-/
namespace Go.Proofs.Ytghogoijjaiccaa.Sha
open Go.RowKit Go.Proofs.Ytghogoijjaiccaa.Num
set_option linter.unusedVariables false

end Go.Proofs.Ytghogoijjaiccaa.Sha

/-
  The contracts of the small functions of package sha, over this seat's translation.
-/
namespace Go.Proofs.Ytghogoijjaiccaa.Sha
open Go.ChangeShapes Go.WideShapes Go.ChangeAt Go.RowKit Go.Proofs.Ytghogoijjaiccaa.Num Go.Proofs.Ytghogoijjaiccaa.Mem Go.Proofs.Ytghogoijjaiccaa.Bt
set_option linter.unusedVariables false

end Go.Proofs.Ytghogoijjaiccaa.Sha

/-
  The contracts of sha's two functions on one block: spread (the sixty-four numbers of a block) and mixed (the eight numbers behind it), over this seat's translation.
-/
namespace Go.Proofs.Ytghogoijjaiccaa.Sha
open Go.ChangeShapes Go.WideShapes Go.ChangeAt Go.RowKit Go.Proofs.Ytghogoijjaiccaa.Num Go.Proofs.Ytghogoijjaiccaa.Mem Go.Proofs.Ytghogoijjaiccaa.Bt
set_option linter.unusedVariables false

end Go.Proofs.Ytghogoijjaiccaa.Sha

/-
  The contract of sha's mixed: the eight numbers behind one block more, over this seat's translation.
-/
namespace Go.Proofs.Ytghogoijjaiccaa.Sha
open Go.ChangeShapes Go.WideShapes Go.ChangeAt Go.RowKit Go.Proofs.Ytghogoijjaiccaa.Num Go.Proofs.Ytghogoijjaiccaa.Mem Go.Proofs.Ytghogoijjaiccaa.Bt
set_option linter.unusedVariables false

end Go.Proofs.Ytghogoijjaiccaa.Sha

/-
  Plain facts on bytes that are taken block by block: what is written in parts is what is written at once; what stands behind the bytes. No program, no world.
-/
namespace Go.Proofs.Ytghogoijjaiccaa.Sha
open Go.RowKit Go.Proofs.Ytghogoijjaiccaa.Mem Go.Proofs.Ytghogoijjaiccaa.Bt
set_option linter.unusedVariables false

end Go.Proofs.Ytghogoijjaiccaa.Sha

/-
  The contracts of sha's Hasher: New and Write, over this seat's translation.
-/
namespace Go.Proofs.Ytghogoijjaiccaa.Sha
open Go.ChangeShapes Go.WideShapes Go.ChangeAt Go.RowKit Go.Proofs.Ytghogoijjaiccaa.Num Go.Proofs.Ytghogoijjaiccaa.Mem Go.Proofs.Ytghogoijjaiccaa.Bt
set_option linter.unusedVariables false

end Go.Proofs.Ytghogoijjaiccaa.Sha

/-
  The contracts of sha's end, Sum and Of, over this seat's translation: the digest of what was written.
-/
namespace Go.Proofs.Ytghogoijjaiccaa.Sha
open Go.ChangeShapes Go.WideShapes Go.ChangeAt Go.RowKit Go.Proofs.Ytghogoijjaiccaa.Num Go.Proofs.Ytghogoijjaiccaa.Mem Go.Proofs.Ytghogoijjaiccaa.Bt
set_option linter.unusedVariables false

theorem z25 : Mem.Zero Try.prog 24 (u8s (List.replicate 32 0)) := by unfold Mem.Zero; kernel_rfl
theorem sz25 : Sized Try.prog 24 32 := ⟨.array 32 5, by kernel_rfl, rfl, by kernel_rfl⟩
end Go.Proofs.Ytghogoijjaiccaa.Sha

/-
  '==' and '!=' between two digests that are the same, over this seat's translation.
-/
namespace Go.Proofs.Ytghogoijjaiccaa.Sha
open Go.RowKit Go.Proofs.Ytghogoijjaiccaa.Mem Go.Proofs.Ytghogoijjaiccaa.Bt
set_option linter.unusedVariables false

section
variable {o : Oper} {a : Act}
end
end Go.Proofs.Ytghogoijjaiccaa.Sha

/-
  '==' and '!=' between any two digests. Over this seat's translation.
-/
namespace Go.Proofs.Ytghogoijjaiccaa.Sha
open Go.RowKit Go.Proofs.Ytghogoijjaiccaa.Mem Go.Proofs.Ytghogoijjaiccaa.Bt
set_option linter.unusedVariables false

theorem getD_ext {xs ys : List Nat} (h : xs.length = ys.length) (hg : ∀ i, i < xs.length → xs.getD i 0 = ys.getD i 0) : xs = ys := by
  apply List.ext_getElem h
  intro i h1 h2
  have := hg i h1
  rwa [List.getD_eq_getElem?_getD, List.getD_eq_getElem?_getD, List.getElem?_eq_getElem h1, List.getElem?_eq_getElem h2] at this
section
variable {o : Oper} {a : Act}
end
end Go.Proofs.Ytghogoijjaiccaa.Sha

/-
  Structs of a text and a digest as keys of maps. Over this seat's translation.
-/
namespace Go.Proofs.Ytghogoijjaiccaa.Sha
open Go.RowKit Go.Proofs.Ytghogoijjaiccaa.Mem Go.Proofs.Ytghogoijjaiccaa.Bt
set_option linter.unusedVariables false

end Go.Proofs.Ytghogoijjaiccaa.Sha
