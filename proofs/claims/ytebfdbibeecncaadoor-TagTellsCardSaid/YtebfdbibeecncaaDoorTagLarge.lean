/-
  The contracts of layer 3's large and of the document's Four, over this seat's translation.
-/
import Derived.Test.YtebfdbibeecncaaDoorTagLeaf
namespace Go.Proofs.YtebfdbibeecncaaDoor.Tg
open Go.ChangeShapes Go.WideShapes Go.ChangeAt Go.RowKit Go.Proofs.YtebfdbibeecncaaDoor.Mem Go.Proofs.YtebfdbibeecncaaDoor.Bt
set_option linter.unusedVariables false

/-- What large answers. -/
structure LargePost (w : World) (s : ByteArray) (l : List (List Nat)) (e : Ending) (w' : World) : Prop where
  ex : ∃ b : Bool, e = .returned (.bool b) ∧ (b = false → s.size ≤ 2000 ∧ l.length ≤ 300 ∧ total l ≤ 2000)
  same : w = w'
structure LgRel (w : World) (l : List (List Nat)) (i v : Value) (wr : World) : Prop where
  ex : ∃ k : Nat, k ≤ l.length ∧ i = .int .i64 k ∧ v = .int .i64 ((total (l.take k) : Nat) : Int) ∧ total (l.take k) ≤ 2000
  same : w = wr
set_option maxHeartbeats 1000000 in
set_option maxRecDepth 100000 in
theorem large_any (s : ByteArray) (l : List (List Nat)) (P : Option Addr) (cap : Nat) (w : World) (hs : s.size ≤ maxLen) (hl : Parts w P l) (hm : l.length ≤ maxLen) :
    Calls Tryd.prog 7 #[.string s, .slice P l.length cap] w (LargePost w s l) := by
  have HL := Lib.hid hl; clear hl
  unfold maxLen at hs hm
  by_cases h1 : s.size ≤ 2000
  · have hd1 : decide ((2000 : Int) < (s.size : Int)) = false := decide_eq_false (by omega)
    by_cases h2 : l.length ≤ 300
    · have hd2 : decide ((300 : Int) < (l.length : Int)) = false := decide_eq_false (by omega)
      have h0 : LgRel w l (.int .i64 0) (.int .i64 0) w := ⟨⟨0, by omega, rfl, rfl, by simp [total]⟩, rfl⟩
      go_enter Tryd.func7, Tryd.ntmps7
      go_wp2_with fail
      go_loopw [18, 5] (fun i v wr => LgRel w l i v wr) (fun i _ _ => l.length - (intOf i).toNat)
      case atStart => exact h0
      case round =>
        clear h0
        obtain ⟨⟨k, hk, rfl, rfl, htot⟩, rfl⟩ := hrel
        by_cases hlt : k < l.length
        · obtain ⟨g, o, rfl, hg, hrows⟩ := HL.out.at_ (by omega)
          obtain ⟨p, c, hcell, hcame⟩ := hrows k hlt
          have hmx := hcame.max_
          have hcp := hcame.cap_
          unfold maxLen at hmx
          have hts := Lib.hid (total_snoc l k hlt)
          clear hrows hcame
          generalize (l.getD k []).length = m at hcell hts hcp
          generalize total (l.take k) = T at htot hts ⊢
          have ik : (k : Int) < (l.length : Int) := by omega
          by_cases hbig : m + T ≤ 2000
          · have hnb : decide ((2000 : Int) - (T : Int) < (m : Int)) = false := decide_eq_false (by omega)
            go_wp2_with fail
            go_roundw
            case rel => exact ⟨⟨k + 1, by omega, by go_num, by rw [hts.out]; go_num, by rw [hts.out]; omega⟩, rfl⟩
            case measure => simp [intOf]; omega
          · have hnb : decide ((2000 : Int) - (T : Int) < (m : Int)) = true := decide_eq_true (by omega)
            go_wp2_with fail
            go_ret
            exact ⟨⟨true, rfl, fun h => by cases h⟩, rfl⟩
        · obtain rfl : k = l.length := by omega
          rw [List.take_length] at htot
          go_wp2_with fail
          go_ret
          exact ⟨⟨false, rfl, fun _ => ⟨h1, h2, htot⟩⟩, rfl⟩
    · have hd2 : decide ((300 : Int) < (l.length : Int)) = true := decide_eq_true (by omega)
      go_enter Tryd.func7, Tryd.ntmps7
      go_wp2_with fail
      go_ret
      exact ⟨⟨true, rfl, fun h => by cases h⟩, rfl⟩
  · have hd1 : decide ((2000 : Int) < (s.size : Int)) = true := decide_eq_true (by omega)
    go_enter Tryd.func7, Tryd.ntmps7
    go_wp2_with fail
    go_ret
    exact ⟨⟨true, rfl, fun h => by cases h⟩, rfl⟩

theorem bs4 (a b c d : Int) (w : World) : (Instr.buildSlice 25 4 #[(0, .int .u8 a), (1, .int .u8 b), (2, .int .u8 c), (3, .int .u8 d)]).run Tryd.prog w = .ok (.slice (some ⟨w.heap.size, 0, none⟩) 4 4) (w.alloc (.cells #[.int .u8 a, .int .u8 b, .int .u8 c, .int .u8 d] 5)) := by kernel_rfl
/-- A new slice of bytes. -/
theorem own_row {w2 : World} {b base : Nat} {bs : List Nat} (hr : Row w2 b 5 (u8s bs)) (hb : base ≤ b) (hm : bs.length ≤ 1000000) : Own w2 base (some ⟨b, 0, none⟩) bs.length bs :=
  ⟨by rw [u8s_length, Nat.mul_one], .inr ⟨b, bs.length, (u8s bs).toArray, rfl, hb, hr, Nat.le_refl _, by unfold maxLen; omega, by simp [u8s_length], by simp [List.take_of_length_le, u8s_length]⟩⟩
/-- What Four leaves. -/
structure FourPost (w : World) (n : Nat) (e : Ending) (w' : World) : Prop where
  ex : ∃ b, e = .returned (.slice (some ⟨b, 0, none⟩) 4 4) ∧ Row w' b 5 (u8s (four n))
  new : New w w'
set_option maxRecDepth 100000 in
theorem four_any (n : Nat) (w : World) (hn : n ≤ 2000000) : Calls Tryd.prog 17 #[.int .i64 (n : Int)] w (FourPost w n) := by
  go_enter Tryd.func17, Tryd.ntmps17
  go_wp2_with (first
    | ((refine arm_buildSlice (o := ⟨some 18, _, _, _, _, _⟩) rfl 4 _ rfl (u8s (four n)) #[(0, .int .u8 ((n / 16777216 % 256 : Nat) : Int)), (1, .int .u8 ((n / 65536 % 256 : Nat) : Int)), (2, .int .u8 ((n / 256 % 256 : Nat) : Int)), (3, .int .u8 ((n % 256 : Nat) : Int))] (by simp [Act.eval] <;> omega) (bs4 _ _ _ _) ?_); intro b1 w1 hb1 hR1 hN1))
  go_ret
  exact ⟨⟨b1, rfl, hR1⟩, hN1⟩
end Go.Proofs.YtebfdbibeecncaaDoor.Tg
