import Derived.Test.YtnjmocobncncdaaGreatDoorWireAll
/-
  Small laws of wire's that the law's own texts and the document's reader share. Over this seat's translation.
-/
namespace Go.Proofs.YtnjmocobncncdaaGreatDoor.Wi
open Go.ChangeShapes Go.WideShapes Go.ChangeAt Go.RowKit Go.Proofs.YtnjmocobncncdaaGreatDoor.Mem Go.Proofs.YtnjmocobncncdaaGreatDoor.Bt Go.Proofs.YtnjmocobncncdaaGreatDoor.Tg Go.Proofs.YtnjmocobncncdaaGreatDoor.Sha
set_option linter.unusedVariables false
set_option linter.unusedSimpArgs false

theorem put1 (n : Nat) : put n 1 = [n % 256] := rfl

section
variable {ops : Array Oper} {rest : List Oper} {o : Oper} {a : Act} {w : World} {Q : Exit → Act → World → Prop}
end
section
variable {w w' : World} {base A B C : Nat} {pa pa' : Option Addr} {ca ca' : Nat} {la la' : List Nat} {pb : Option Addr} {cb : Nat} {bs : List Nat} {pc pc' : Option Addr} {cc cc' : Nat} {cs cs' : List Nat} {q : Option Addr} {qc : Nat} {qs : List Nat}
theorem row_step {X : Nat} {t : TypeId} {xs : List Value} (hx : Row w X t xs) (ha : Wr w base A pa ca la) (hs : Step (some A) pa pa' w w') (hne : X ≠ A) (ht : t ≠ 5 := by decide) : Row w' X t xs :=
  hx.of_block (hs.block X hx.lt (fun e => hne (Option.some.inj e).symm) (row_not_own hx ht ha.own))
end
end Go.Proofs.YtnjmocobncncdaaGreatDoor.Wi

/-
  The contracts of the document's Put and Text of layer 4, over this seat's translation.
-/
namespace Go.Proofs.YtnjmocobncncdaaGreatDoor.Wi
open Go.ChangeShapes Go.WideShapes Go.ChangeAt Go.RowKit Go.Proofs.YtnjmocobncncdaaGreatDoor.Mem Go.Proofs.YtnjmocobncncdaaGreatDoor.Bt Go.Proofs.YtnjmocobncncdaaGreatDoor.Tg
set_option linter.unusedVariables false
set_option linter.unusedSimpArgs false

/-- What holds in Put's loop. -/
structure PuRel (w : World) (n s : Nat) (i v m : Value) (wr : World) : Prop where
  ex : ∃ k : Nat, k ≤ s ∧ i = .int .i64 k ∧ m = .int .u64 ((n / 256 ^ k : Nat) : Int) ∧ ∃ p cap, v = .slice p k cap ∧ Own wr w.heap.size p cap (put n k)
  bel : Below w.heap.size w wr
/-- What Put leaves. -/
structure PutPost (w : World) (n s : Nat) (e : Ending) (w' : World) : Prop where
  ex : ∃ p cap, e = .returned (.slice p s cap) ∧ Own w' w.heap.size p cap (put n s)
  bel : Below w.heap.size w w'
set_option maxHeartbeats 1000000 in
set_option maxRecDepth 100000 in
theorem put_any (n s : Nat) (w : World) (hn : n < 18446744073709551616) (hs : s ≤ 8) :
    Calls Tryz.prog 52 #[.int .u64 (n : Int), .int .i64 (s : Int)] w (PutPost w n s) := by
  go_enter Tryz.func52, Tryz.ntmps52
  go_wp2_with (first
    | ((with_reducible refine at_slot 7 ?_); (refine arm_buildSlice (o := ⟨some 7, _, _, _, _, _⟩) rfl 0 _ rfl [] #[] (by simp) bs0 ?_); intro b1 w1 hb1 hR1 hN1))
  have h0 : PuRel w n s (.int .i64 0) (.slice (some ⟨b1, 0, none⟩) 0 0) (.int .u64 (n : Int)) w1 := ⟨⟨0, by omega, rfl, by simp, _, _, rfl, own_new hR1 (by have := hb1.out; omega)⟩, hN1.below⟩
  clear hb1 hR1 hN1
  go_loopw [6, 5, 0] (fun i v m wr => PuRel w n s i v m wr) (fun i _ _ _ => s - (intOf i).toNat)
  case atStart => exact h0
  case round =>
    clear h0 w1
    obtain ⟨⟨k, hk, rfl, rfl, p, cap, rfl, hO⟩, hbel⟩ := hrel
    by_cases hlt : k < s
    · have ik : (k : Int) < (s : Int) := by omega
      have HO := Lib.hid hO; clear hO
      have HC := Lib.hid (put_cons k n)
      have HPL := Lib.hid (put_length k n)
      have HD : Hid (n / 256 ^ (k + 1) = n / 256 ^ k / 256) := Lib.hid (by rw [Nat.pow_succ, Nat.div_div_eq_div_mul])
      have hmn : n / 256 ^ k < 18446744073709551616 := Nat.lt_of_le_of_lt (Nat.div_le_self _ _) hn
      generalize n / 256 ^ k = m at HC HD hmn
      have HV : Hid ((m : Int) % 256 = ((m % 256 : Nat) : Int)) := Lib.hid (by omega)
      have hws := hbel.size
      go_wp2_with (first
        | ((with_reducible refine at_slot 16 ?_); (refine arm_buildSlice (o := ⟨some 16, _, _, _, _, _⟩) rfl 1 _ rfl [.int .u8 ((m % 256 : Nat) : Int)] #[(0, .int .u8 ((m % 256 : Nat) : Int))] (by simp [Act.eval]) (bs1 _) ?_); intro b2 w2 hb2 hR2 hN2)
        | ((with_reducible refine at_slot 18 ?_); (refine arm_append2 (o := ⟨some 18, _, _, _, _, _⟩) rfl _ _ rfl wr.heap.size (some ⟨b2, 0, none⟩) 1 1 [m % 256] rfl rfl (own_row (bs := [m % 256]) hR2 (by have := hb2.out; omega) (by simp)) p k cap (put n k) rfl HPL.out.symm (fun e => by have := own_none HO.out e; rw [HPL.out] at this; exact this) (HO.out.below hN2.below).bytes (by rw [HPL.out, List.length_singleton]; omega) (by have := hN2.below.size; omega) ?_); intro p3 cap3 w3 hO3 hS3))
      have s2 := hN2.below.size
      have bel3 : Below wr.heap.size wr w3 := hN2.below.trans (hS3.below (fun j hj => by cases hj) (fun j hj => by have h1 : b2 = j := Option.some.inj hj; have := hb2.out; omega) s2)
      go_roundw
      case rel => exact ⟨⟨k + 1, by omega, by go_num, by rw [HD.out]; congr 1, p3, cap3, by congr 1; omega, by rw [HC.out]; exact own_mono hO3 hws⟩, below_step hbel hws bel3⟩
      case measure => simp [intOf]; omega
    · obtain rfl : k = s := by omega
      go_wp2_with fail
      go_ret
      exact ⟨⟨p, cap, rfl, hO⟩, hbel⟩
end Go.Proofs.YtnjmocobncncdaaGreatDoor.Wi

/-
  The document's reader of layer 4: its memory, and the contract of Take, over this seat's translation.
-/
namespace Go.Proofs.YtnjmocobncncdaaGreatDoor.Wi
open Go.ChangeShapes Go.WideShapes Go.ChangeAt Go.RowKit Go.Proofs.YtnjmocobncncdaaGreatDoor.Mem Go.Proofs.YtnjmocobncncdaaGreatDoor.Bt Go.Proofs.YtnjmocobncncdaaGreatDoor.Tg
set_option linter.unusedVariables false
set_option linter.unusedSimpArgs false

theorem wrap_small {m n : Int} (h0 : -4611686018427387904 ≤ m + n) (h1 : m + n ≤ 4611686018427387904) : IntKind.i64.wrap (m + n) = m + n := by
  simp [IntKind.wrap, IntKind.signed, IntKind.bits]; omega
end Go.Proofs.YtnjmocobncncdaaGreatDoor.Wi

/-
  The contracts of the document's reader of layer 4 (Number, Hash, Text, Left, End), over this seat's translation.
-/
namespace Go.Proofs.YtnjmocobncncdaaGreatDoor.Wi
open Go.ChangeShapes Go.WideShapes Go.ChangeAt Go.RowKit Go.Proofs.YtnjmocobncncdaaGreatDoor.Mem Go.Proofs.YtnjmocobncncdaaGreatDoor.Bt Go.Proofs.YtnjmocobncncdaaGreatDoor.Tg
set_option linter.unusedVariables false
set_option linter.unusedSimpArgs false

end Go.Proofs.YtnjmocobncncdaaGreatDoor.Wi

/-
  The contracts of the document's reader of layer 4 (Text, Hash), over this seat's translation.
-/
namespace Go.Proofs.YtnjmocobncncdaaGreatDoor.Wi
open Go.ChangeShapes Go.WideShapes Go.ChangeAt Go.RowKit Go.Proofs.YtnjmocobncncdaaGreatDoor.Mem Go.Proofs.YtnjmocobncncdaaGreatDoor.Bt Go.Proofs.YtnjmocobncncdaaGreatDoor.Tg
set_option linter.unusedVariables false
set_option linter.unusedSimpArgs false

theorem sz_arr : Sized Tryz.prog 31 32 := ⟨.array 32 5, by kernel_rfl, rfl, by kernel_rfl⟩
end Go.Proofs.YtnjmocobncncdaaGreatDoor.Wi
