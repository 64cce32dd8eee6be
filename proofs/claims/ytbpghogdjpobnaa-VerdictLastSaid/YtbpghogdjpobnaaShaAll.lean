import Derived.WalkKit
import Derived.PlainAid
import Derived.Test.YtbpghogdjpobnaaNumAll
import Derived.Test.YtbpghogdjpobnaaRows
import Derived.Test.YtbpghogdjpobnaaBytAll
import Derived.ProofKit
import Derived.OpenShut
import Derived.Handy
import Derived.Lib.Hide
import Derived.Deep.QuietTactic
import Derived.BigQuiet
import Derived.StillTailTactics
import Derived.Test.YtbpghogdjpobnaaMemAll
import Derived.Laws.StructEq
/-
  The digest of bytes, over natural numbers and lists: what the chapter on sha says, as plain functions. No program, no world.
-/
namespace Go.Proofs.Ytbpghogdjpobnaa.Sha

/-- Turned to the right by k of 32 places. -/
def rotr (k n : Nat) : Nat := n / 2 ^ k + n % 2 ^ k * 2 ^ (32 - k)
def sm0 (x : Nat) : Nat := rotr 7 x ^^^ rotr 18 x ^^^ (x / 8)
def sm1 (x : Nat) : Nat := rotr 17 x ^^^ rotr 19 x ^^^ (x / 1024)
def bg0 (x : Nat) : Nat := rotr 2 x ^^^ rotr 13 x ^^^ rotr 22 x
def bg1 (x : Nat) : Nat := rotr 6 x ^^^ rotr 11 x ^^^ rotr 25 x
def chs (x y z : Nat) : Nat := (x &&& y) ||| ((4294967295 - x) &&& z)
def mjr (x y z : Nat) : Nat := (x &&& y) ||| (x &&& z) ||| (y &&& z)
/-- Four bytes, the highest first. -/
def be4 (a b c d : Nat) : Nat := a * 16777216 + b * 65536 + c * 256 + d
def bytes4 (x : Nat) : List Nat := [x / 16777216 % 256, x / 65536 % 256, x / 256 % 256, x % 256]

def wordAt (l : List Nat) (t : Nat) : Nat := be4 (l.getD (4 * t) 0) (l.getD (4 * t + 1) 0) (l.getD (4 * t + 2) 0) (l.getD (4 * t + 3) 0)
/-- The first k numbers of a block. -/
def wordsOf (l : List Nat) (k : Nat) : List Nat := (List.range k).map (wordAt l)
/-- The next number of those that are made. -/
def nextW (w : List Nat) : Nat := (sm1 (w.getD (w.length - 2) 0) + w.getD (w.length - 7) 0 + sm0 (w.getD (w.length - 15) 0) + w.getD (w.length - 16) 0) % 4294967296
def sch : Nat → List Nat → List Nat
  | 0, w => w
  | n + 1, w => sch n w ++ [nextW (sch n w)]
def sched (l : List Nat) : List Nat := sch 48 (wordsOf l 16)

structure S8 where
  a : Nat
  b : Nat
  c : Nat
  d : Nat
  e : Nat
  f : Nat
  g : Nat
  h : Nat
def S8.list (s : S8) : List Nat := [s.a, s.b, s.c, s.d, s.e, s.f, s.g, s.h]
def T1 (s : S8) (k w : Nat) : Nat := s.h + bg1 s.e + chs s.e s.f s.g + k + w
def T2 (s : S8) : Nat := bg0 s.a + mjr s.a s.b s.c
def rnd (s : S8) (k w : Nat) : S8 := ⟨(T1 s k w + T2 s) % 4294967296, s.a, s.b, s.c, (s.d + T1 s k w) % 4294967296, s.e, s.f, s.g⟩
def rnds (ks ws : List Nat) (s : S8) : Nat → S8
  | 0 => s
  | t + 1 => rnd (rnds ks ws s t) (ks.getD t 0) (ws.getD t 0)
/-- The sixty-four numbers. -/
def ks : List Nat := [1116352408, 1899447441, 3049323471, 3921009573, 961987163, 1508970993, 2453635748, 2870763221, 3624381080, 310598401, 607225278, 1426881987, 1925078388, 2162078206, 2614888103, 3248222580, 3835390401, 4022224774, 264347078, 604807628, 770255983, 1249150122, 1555081692, 1996064986, 2554220882, 2821834349, 2952996808, 3210313671, 3336571891, 3584528711, 113926993, 338241895, 666307205, 773529912, 1294757372, 1396182291, 1695183700, 1986661051, 2177026350, 2456956037, 2730485921, 2820302411, 3259730800, 3345764771, 3516065817, 3600352804, 4094571909, 275423344, 430227734, 506948616, 659060556, 883997877, 958139571, 1322822218, 1537002063, 1747873779, 1955562222, 2024104815, 2227730452, 2361852424, 2428436474, 2756734187, 3204031479, 3329325298]
def plus (s r : S8) : S8 := ⟨(s.a + r.a) % 4294967296, (s.b + r.b) % 4294967296, (s.c + r.c) % 4294967296, (s.d + r.d) % 4294967296, (s.e + r.e) % 4294967296, (s.f + r.f) % 4294967296, (s.g + r.g) % 4294967296, (s.h + r.h) % 4294967296⟩
/-- The eight numbers behind one block more. -/
def comp (s : S8) (l : List Nat) : S8 := plus s (rnds ks (sched l) s 64)
def leftOf (l : List Nat) : List Nat := l.drop (64 * (l.length / 64))
end Go.Proofs.Ytbpghogdjpobnaa.Sha

/-
  Plain facts for the digest's numbers: bits, turns, bounds. No program, no world.
-/
namespace Go.Proofs.Ytbpghogdjpobnaa.Sha
open Go.RowKit Go.Proofs.Ytbpghogdjpobnaa.Num
set_option linter.unusedVariables false

end Go.Proofs.Ytbpghogdjpobnaa.Sha

/-
  The contracts of the small functions of package sha, over this seat's translation.
-/
namespace Go.Proofs.Ytbpghogdjpobnaa.Sha
open Go.ChangeShapes Go.WideShapes Go.ChangeAt Go.RowKit Go.Proofs.Ytbpghogdjpobnaa.Num Go.Proofs.Ytbpghogdjpobnaa.Mem Go.Proofs.Ytbpghogdjpobnaa.Bt
set_option linter.unusedVariables false

end Go.Proofs.Ytbpghogdjpobnaa.Sha

/-
  The contracts of sha's two functions on one block: spread (the sixty-four numbers of a block) and mixed (the eight numbers behind it), over this seat's translation.
-/
namespace Go.Proofs.Ytbpghogdjpobnaa.Sha
open Go.ChangeShapes Go.WideShapes Go.ChangeAt Go.RowKit Go.Proofs.Ytbpghogdjpobnaa.Num Go.Proofs.Ytbpghogdjpobnaa.Mem Go.Proofs.Ytbpghogdjpobnaa.Bt
set_option linter.unusedVariables false

end Go.Proofs.Ytbpghogdjpobnaa.Sha

/-
  The contract of sha's mixed: the eight numbers behind one block more, over this seat's translation.
-/
namespace Go.Proofs.Ytbpghogdjpobnaa.Sha
open Go.ChangeShapes Go.WideShapes Go.ChangeAt Go.RowKit Go.Proofs.Ytbpghogdjpobnaa.Num Go.Proofs.Ytbpghogdjpobnaa.Mem Go.Proofs.Ytbpghogdjpobnaa.Bt
set_option linter.unusedVariables false

end Go.Proofs.Ytbpghogdjpobnaa.Sha

/-
  Plain facts on bytes that are taken block by block: what is written in parts is what is written at once; what stands behind the bytes. No program, no world.
-/
namespace Go.Proofs.Ytbpghogdjpobnaa.Sha
open Go.RowKit Go.Proofs.Ytbpghogdjpobnaa.Mem Go.Proofs.Ytbpghogdjpobnaa.Bt
set_option linter.unusedVariables false

end Go.Proofs.Ytbpghogdjpobnaa.Sha

/-
  The contracts of sha's Hasher: New and Write, over this seat's translation.
-/
namespace Go.Proofs.Ytbpghogdjpobnaa.Sha
open Go.ChangeShapes Go.WideShapes Go.ChangeAt Go.RowKit Go.Proofs.Ytbpghogdjpobnaa.Num Go.Proofs.Ytbpghogdjpobnaa.Mem Go.Proofs.Ytbpghogdjpobnaa.Bt
set_option linter.unusedVariables false

end Go.Proofs.Ytbpghogdjpobnaa.Sha

/-
  The contracts of sha's end, Sum and Of, over this seat's translation: the digest of what was written.
-/
namespace Go.Proofs.Ytbpghogdjpobnaa.Sha
open Go.ChangeShapes Go.WideShapes Go.ChangeAt Go.RowKit Go.Proofs.Ytbpghogdjpobnaa.Num Go.Proofs.Ytbpghogdjpobnaa.Mem Go.Proofs.Ytbpghogdjpobnaa.Bt
set_option linter.unusedVariables false

theorem z25 : Mem.Zero Try.prog 32 (u8s (List.replicate 32 0)) := by unfold Mem.Zero; kernel_rfl
theorem sz25 : Sized Try.prog 32 32 := ⟨.array 32 5, by kernel_rfl, rfl, by kernel_rfl⟩
/-- The digest's bytes so far, and zeros. -/
def fillO (s : S8) (k : Nat) : List Nat := (s.list.take k).flatMap bytes4 ++ List.replicate (32 - 4 * k) 0
/-- What holds in Sum's loop. -/
structure SmRel (w : World) (s : S8) (k R U : Nat) (wr : World) : Prop where
  rr : Row wr R 32 (u8s (List.replicate 32 0))
  ru : Row wr U 32 (u8s (fillO s k))
  bel : Below w.heap.size w wr

end Go.Proofs.Ytbpghogdjpobnaa.Sha

/-
  '==' and '!=' between two digests that are the same, over this seat's translation.
-/
namespace Go.Proofs.Ytbpghogdjpobnaa.Sha
open Go.RowKit Go.Proofs.Ytbpghogdjpobnaa.Mem Go.Proofs.Ytbpghogdjpobnaa.Bt
set_option linter.unusedVariables false

theorem part_u8s (xs : List Nat) (i : Nat) (hi : i < xs.length) (w : World) : (part 5 (u8s xs).toArray i).run Try.prog w = .ok (.int .u8 ((xs.getD i 0 : Nat) : Int)) w := by
  have hu : Try.prog.underlying 5 = some (.int .u8) := by kernel_rfl
  have hg := u8s_get hi
  simp [part, isAgg, run_underlying hu, hg]
section
variable {o : Oper} {a : Act}
end
end Go.Proofs.Ytbpghogdjpobnaa.Sha

/-
  '==' and '!=' between any two digests. Over this seat's translation.
-/
namespace Go.Proofs.Ytbpghogdjpobnaa.Sha
open Go.RowKit Go.Proofs.Ytbpghogdjpobnaa.Mem Go.Proofs.Ytbpghogdjpobnaa.Bt
set_option linter.unusedVariables false

theorem eq_bytes (d m n : Nat) (w : World) : (Op.equalIn (d + 1) 5 (.int .u8 (m : Int)) (.int .u8 (n : Int))).run Try.prog w = .ok (decide (m = n)) w := by
  have hu : Try.prog.underlying 5 = some (.int .u8) := by kernel_rfl
  have hb : ((m : Int) == (n : Int)) = decide (m = n) := by
    by_cases h : m = n
    · rw [h, decide_eq_true rfl, beq_self_eq_true]
    · rw [decide_eq_false h]; exact beq_eq_false_iff_ne.2 (by omega)
  rw [run_equalIn_int w d 5 .u8 .u8 m n hu, hb]
theorem getD_ext {xs ys : List Nat} (h : xs.length = ys.length) (hg : ∀ i, i < xs.length → xs.getD i 0 = ys.getD i 0) : xs = ys := by
  apply List.ext_getElem h
  intro i h1 h2
  have := hg i h1
  rwa [List.getD_eq_getElem?_getD, List.getD_eq_getElem?_getD, List.getElem?_eq_getElem h1, List.getElem?_eq_getElem h2] at this
theorem eq_hash2 (d : Nat) (t : TypeId) (hu : Try.prog.underlying t = some (.array 32 5)) (xs ys : List Nat) (hx : xs.length = 32) (hy : ys.length = 32) (w : World) :
    (Op.equalIn (d + 2) t (.agg (u8s xs).toArray) (.agg (u8s ys).toArray)).run Try.prog w = .ok (decide (xs = ys)) w := by
  have hs : (sizeOf 5).run Try.prog w = .ok 1 w := by kernel_rfl
  unfold Op.equalIn
  simp only [Sem.run_bind, run_underlying hu, Result.andThen_ok, hs]
  have key : ∀ l : List Nat, (∀ i ∈ l, i < 32) → (forIn (m := Sem) l ((none : Option Bool), ()) fun i __s => do
      let a ← part 5 (u8s xs).toArray (i * 1)
      let b ← part 5 (u8s ys).toArray (i * 1)
      let r ← Op.equalIn (d + 1) 5 a b
      if (!r) = true then pure (ForInStep.done (some false, ())) else pure (ForInStep.yield (none, ()))).run Try.prog w = .ok (if ∀ i ∈ l, xs.getD i 0 = ys.getD i 0 then (none, ()) else (some false, ())) w := by
    intro l
    induction l with
    | nil => intro _; simp
    | cons i l ih =>
      intro h
      have hi := h i (by simp)
      rw [List.forIn_cons]
      simp only [Sem.run_bind, Nat.mul_one, part_u8s xs i (by omega) w, part_u8s ys i (by omega) w, Result.andThen_ok, eq_bytes]
      by_cases he : xs.getD i 0 = ys.getD i 0
      · simp only [he, decide_true, Bool.not_true, Bool.false_eq_true, if_false, Sem.run_pure, Result.andThen_ok]
        have := ih (fun j hj => h j (by simp [hj]))
        simp only [Nat.mul_one] at this
        rw [this]
        simp only [List.mem_cons, forall_eq_or_imp, he, true_and]
      · simp only [he, decide_false, Bool.not_false, if_true, Sem.run_pure, Result.andThen_ok]
        rw [if_neg (fun hc => he (hc i (by simp)))]
  rw [Std.Legacy.Range.forIn_eq_forIn_range']
  rw [key _ (fun i hi => by simp [Std.Legacy.Range.size] at hi; omega)]
  by_cases he : xs = ys
  · subst he; simp
  · have hne : ¬ ∀ i ∈ List.range' 0 (Std.Legacy.Range.size ⟨0, 32, 1, by decide⟩) 1, xs.getD i 0 = ys.getD i 0 := fun hc => he (getD_ext (by omega) (fun i hi => hc i (by simp [Std.Legacy.Range.size]; omega)))
    rw [if_neg hne]
    simp [he]
theorem run_eql2 (xs ys : List Nat) (hx : xs.length = 32) (hy : ys.length = 32) (w : World) : (binOp .eql 32 (.agg (u8s xs).toArray) (.agg (u8s ys).toArray)).run Try.prog w = .ok (.bool (decide (xs = ys))) w := by
  simp only [binOp, Op.equal, Op.maxDepth, Sem.run_bind, eq_hash2 9998 32 (by kernel_rfl) xs ys hx hy w, Result.andThen_ok, Sem.run_pure]
theorem run_neq2 (xs ys : List Nat) (hx : xs.length = 32) (hy : ys.length = 32) (w : World) : (binOp .neq 32 (.agg (u8s xs).toArray) (.agg (u8s ys).toArray)).run Try.prog w = .ok (.bool (!decide (xs = ys))) w := by
  simp only [binOp, Op.equal, Op.maxDepth, Sem.run_bind, eq_hash2 9998 32 (by kernel_rfl) xs ys hx hy w, Result.andThen_ok, Sem.run_pure]
section
variable {o : Oper} {a : Act}
theorem run_op_eql2 (x y : Operand) (t' : TypeId) (ho : o.op = .binOp .eql 32 x y t') (xs ys : List Nat) (hlx : xs.length = 32) (hly : ys.length = 32) (hx : a.eval x = .agg (u8s xs).toArray) (hy : a.eval y = .agg (u8s ys).toArray) (w : World) : (execOp a.eval o).run Try.prog w = .ok (.value (.bool (decide (xs = ys)))) w := by
  unfold execOp
  simp only [ho, hx, hy, Sem.run_bind, run_eqGuard_agg w _ _ _ _ _ _ (show Try.prog.eqGuardType Try.prog.depth 32 = false by kernel_rfl), Result.andThen_ok, run_eql2 xs ys hlx hly w, Sem.run_pure]
theorem run_op_neq2 (x y : Operand) (t' : TypeId) (ho : o.op = .binOp .neq 32 x y t') (xs ys : List Nat) (hlx : xs.length = 32) (hly : ys.length = 32) (hx : a.eval x = .agg (u8s xs).toArray) (hy : a.eval y = .agg (u8s ys).toArray) (w : World) : (execOp a.eval o).run Try.prog w = .ok (.value (.bool (!decide (xs = ys)))) w := by
  unfold execOp
  simp only [ho, hx, hy, Sem.run_bind, run_eqGuard_agg w _ _ _ _ _ _ (show Try.prog.eqGuardType Try.prog.depth 32 = false by kernel_rfl), Result.andThen_ok, run_neq2 xs ys hlx hly w, Sem.run_pure]
end
end Go.Proofs.Ytbpghogdjpobnaa.Sha

/-
  Structs of a text and a digest as keys of maps. Over this seat's translation.
-/
namespace Go.Proofs.Ytbpghogdjpobnaa.Sha
open Go.RowKit Go.Proofs.Ytbpghogdjpobnaa.Mem Go.Proofs.Ytbpghogdjpobnaa.Bt
set_option linter.unusedVariables false

end Go.Proofs.Ytbpghogdjpobnaa.Sha
