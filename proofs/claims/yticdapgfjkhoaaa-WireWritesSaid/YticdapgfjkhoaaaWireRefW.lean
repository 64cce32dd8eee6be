/-
  The contracts of the document's Put and Text of layer 4, over this seat's translation.
-/
import Derived.Test.YticdapgfjkhoaaaWireLaws2
namespace Go.Proofs.Yticdapgfjkhoaaa.Wi
open Go.ChangeShapes Go.WideShapes Go.ChangeAt Go.RowKit Go.Proofs.Yticdapgfjkhoaaa.Mem Go.Proofs.Yticdapgfjkhoaaa.Bt Go.Proofs.Yticdapgfjkhoaaa.Tg
set_option linter.unusedVariables false
set_option linter.unusedSimpArgs false

/-- What holds in Put's loop. -/
structure PuRel (w : World) (n s : Nat) (i v m : Value) (wr : World) : Prop where
  ex : ∃ k : Nat, k ≤ s ∧ i = .int .i64 k ∧ m = .int .u64 ((n / 256 ^ k : Nat) : Int) ∧ ∃ p cap, v = .slice p k cap ∧ Own wr w.heap.size p cap (put n k)
  bel : Below w.heap.size w wr
/-- What Put leaves. -/
structure PutPost (w : World) (n s : Nat) (e : Ending) (w' : World) : Prop where
  ex : ∃ p cap, e = .returned (.slice p s cap) ∧ Own w' w.heap.size p cap (put n s)
  bel : Below w.heap.size w w'
set_option maxHeartbeats 1000000 in
set_option maxRecDepth 100000 in
theorem put_any (n s : Nat) (w : World) (hn : n < 18446744073709551616) (hs : s ≤ 8) :
    Calls Try.prog 10 #[.int .u64 (n : Int), .int .i64 (s : Int)] w (PutPost w n s) := by
  go_enter Try.func10, Try.ntmps10
  go_wp2_with (first
    | ((with_reducible refine at_slot 7 ?_); (refine arm_buildSlice (o := ⟨some 7, _, _, _, _, _⟩) rfl 0 _ rfl [] #[] (by simp) bs0 ?_); intro b1 w1 hb1 hR1 hN1))
  have h0 : PuRel w n s (.int .i64 0) (.slice (some ⟨b1, 0, none⟩) 0 0) (.int .u64 (n : Int)) w1 := ⟨⟨0, by omega, rfl, by simp, _, _, rfl, own_new hR1 (by have := hb1.out; omega)⟩, hN1.below⟩
  clear hb1 hR1 hN1
  go_loopw [6, 5, 0] (fun i v m wr => PuRel w n s i v m wr) (fun i _ _ _ => s - (intOf i).toNat)
  case atStart => exact h0
  case round =>
    clear h0 w1
    obtain ⟨⟨k, hk, rfl, rfl, p, cap, rfl, hO⟩, hbel⟩ := hrel
    by_cases hlt : k < s
    · have ik : (k : Int) < (s : Int) := by omega
      have HO := Lib.hid hO; clear hO
      have HC := Lib.hid (put_cons k n)
      have HPL := Lib.hid (put_length k n)
      have HD : Hid (n / 256 ^ (k + 1) = n / 256 ^ k / 256) := Lib.hid (by rw [Nat.pow_succ, Nat.div_div_eq_div_mul])
      have hmn : n / 256 ^ k < 18446744073709551616 := Nat.lt_of_le_of_lt (Nat.div_le_self _ _) hn
      generalize n / 256 ^ k = m at HC HD hmn
      have HV : Hid ((m : Int) % 256 = ((m % 256 : Nat) : Int)) := Lib.hid (by omega)
      have hws := hbel.size
      go_wp2_with (first
        | ((with_reducible refine at_slot 16 ?_); (refine arm_buildSlice (o := ⟨some 16, _, _, _, _, _⟩) rfl 1 _ rfl [.int .u8 ((m % 256 : Nat) : Int)] #[(0, .int .u8 ((m % 256 : Nat) : Int))] (by simp [Act.eval]) (bs1 _) ?_); intro b2 w2 hb2 hR2 hN2)
        | ((with_reducible refine at_slot 18 ?_); (refine arm_append2 (o := ⟨some 18, _, _, _, _, _⟩) rfl _ _ rfl wr.heap.size (some ⟨b2, 0, none⟩) 1 1 [m % 256] rfl rfl (own_row (bs := [m % 256]) hR2 (by have := hb2.out; omega) (by simp)) p k cap (put n k) rfl HPL.out.symm (fun e => by have := own_none HO.out e; rw [HPL.out] at this; exact this) (HO.out.below hN2.below).bytes (by rw [HPL.out, List.length_singleton]; omega) (by have := hN2.below.size; omega) ?_); intro p3 cap3 w3 hO3 hS3))
      have s2 := hN2.below.size
      have bel3 : Below wr.heap.size wr w3 := hN2.below.trans (hS3.below (fun j hj => by cases hj) (fun j hj => by have h1 : b2 = j := Option.some.inj hj; have := hb2.out; omega) s2)
      go_roundw
      case rel => exact ⟨⟨k + 1, by omega, by go_num, by rw [HD.out]; congr 1, p3, cap3, by congr 1; omega, by rw [HC.out]; exact own_mono hO3 hws⟩, below_step hbel hws bel3⟩
      case measure => simp [intOf]; omega
    · obtain rfl : k = s := by omega
      go_wp2_with fail
      go_ret
      exact ⟨⟨p, cap, rfl, hO⟩, hbel⟩
/-- What the document's Text leaves. -/
structure TxtPost (w : World) (ys : List Nat) (e : Ending) (w' : World) : Prop where
  ex : ∃ p cap, e = .returned (.tuple #[.slice p (txt ys).length cap, .bool (decide (ys.length ≤ 255))]) ∧ Own w' w.heap.size p cap (txt ys)
  bel : Below w.heap.size w w'
set_option maxRecDepth 100000 in
theorem txt_any (ys : List Nat) (y : Option Addr) (yc : Nat) (w : World) (hy : Rd w y ys) (hyn : y = none → ys.length = 0 ∧ yc = 0) (hm : ys.length ≤ maxLen) :
    Calls Try.prog 11 #[.slice y ys.length yc] w (TxtPost w ys) := by
  have HY := Lib.hid hy; have HYN := Lib.hid hyn
  clear hy hyn
  unfold maxLen at hm
  by_cases hs : ys.length ≤ 255
  · have hd : decide ((255 : Int) < (ys.length : Int)) = false := decide_eq_false (by omega)
    have HM : Hid ((ys.length : Int) % 256 = ((ys.length : Nat) : Int)) := Lib.hid (by omega)
    go_enter Try.func11, Try.ntmps11
    go_wp2_with (first
      | ((with_reducible refine at_slot 10 ?_); (refine arm_buildSlice (o := ⟨some 10, _, _, _, _, _⟩) rfl 1 _ rfl [.int .u8 ((ys.length : Nat) : Int)] #[(0, .int .u8 ((ys.length : Nat) : Int))] (by simp [Act.eval] <;> omega) (bs1 _) ?_); intro b2 w2 hb2 hR2 hN2)
      | ((with_reducible refine at_slot 12 ?_); (refine arm_append2 (o := ⟨some 12, _, _, _, _, _⟩) rfl _ _ rfl w.heap.size (some ⟨b2, 0, none⟩) 1 1 [ys.length] rfl rfl (own_row (bs := [ys.length]) hR2 (by have := hb2.out; omega) (by simp)) y ys.length yc ys rfl rfl HYN.out (HY.out.below hN2.below).at_ (by rw [List.length_singleton]; omega) (by have := hN2.below.size; omega) ?_); intro p3 cap3 w3 hO3 hS3))
    go_ret2
    have ht : txt ys = [ys.length] ++ ys := if_pos hs
    refine ⟨⟨p3, cap3, ?_, by rw [ht]; exact hO3⟩, hN2.below.trans (hS3.below (fun j hj => by cases hj) (fun j hj => by have h1 : b2 = j := Option.some.inj hj; have := hb2.out; omega) hN2.below.size)⟩
    rw [ht, decide_eq_true hs, List.length_append, List.length_singleton]
    rfl
  · have hd : decide ((255 : Int) < (ys.length : Int)) = true := decide_eq_true (by omega)
    go_enter Try.func11, Try.ntmps11
    go_wp2_with fail
    go_ret2
    have ht : txt ys = [] := if_neg hs
    refine ⟨⟨none, 0, ?_, by rw [ht]; exact own_nil _ _⟩, Below.refl _ _⟩
    rw [ht, decide_eq_false hs]
    rfl
end Go.Proofs.Yticdapgfjkhoaaa.Wi
