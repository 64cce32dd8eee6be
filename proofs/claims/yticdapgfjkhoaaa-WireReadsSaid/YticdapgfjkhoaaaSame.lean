/-
  Bytes that can be read through an address; the contract of the document's Same over this seat's translation.
-/
import Derived.Test.YticdapgfjkhoaaaBytes
import Derived.Test.YticdapgfjkhoaaaHeld
import Derived.Test.YticdapgfjkhoaaaMemMore
namespace Go.Proofs.Yticdapgfjkhoaaa.Tg
open Go.ChangeShapes Go.WideShapes Go.ChangeAt Go.RowKit Go.Proofs.Yticdapgfjkhoaaa.Mem Go.Proofs.Yticdapgfjkhoaaa.Bt
set_option linter.unusedVariables false

/-- Bytes that can be read through this address. -/
structure Rd (w : World) (p : Option Addr) (bs : List Nat) : Prop where
  at_ : bs ≠ [] → ∃ g o, p = some ⟨g, o, none⟩ ∧ w.rangeAt g o (u8s bs)
theorem Rd.below {w w' : World} {p : Option Addr} {bs : List Nat} (h : Rd w p bs) (hb : Below w.heap.size w w') : Rd w' p bs :=
  ⟨fun hne => by
    obtain ⟨g, o, e, hr⟩ := h.at_ hne
    exact ⟨g, o, e, range_block hr (hb.block g (range_lt hr (by intro h; apply hne; simpa [u8s] using h)))⟩⟩
theorem _root_.Go.Proofs.Yticdapgfjkhoaaa.Bt.Own.rd {w : World} {base : Nat} {p : Option Addr} {cap : Nat} {bs : List Nat} (h : Own w base p cap bs) : Rd w p bs := ⟨h.bytes⟩
theorem _root_.Go.Proofs.Yticdapgfjkhoaaa.Bt.Came.rd {w : World} {p : Option Addr} {cap : Nat} {bs : List Nat} (h : Came w p cap bs) : Rd w p bs := ⟨h.at_⟩
theorem Rd.cell {w : World} {p : Option Addr} {bs : List Nat} (h : Rd w p bs) {i : Nat} (hi : i < bs.length) : ∃ g o, p = some ⟨g, o, none⟩ ∧ w.cell? ⟨g, o + i, none⟩ = some (.int .u8 ((bs.getD i 0 : Nat) : Int)) := by
  obtain ⟨g, o, e, hr⟩ := h.at_ (by intro h; subst h; simp at hi)
  exact ⟨g, o, e, hr i _ (u8s_get hi)⟩

theorem _root_.Go.Proofs.Yticdapgfjkhoaaa.Bt.Came.below {w w' : World} {p : Option Addr} {cap : Nat} {bs : List Nat} (h : Came w p cap bs) (hb : Below w.heap.size w w') : Came w' p cap bs :=
  ⟨h.cap_, h.nil_, (h.rd.below hb).at_, h.lt_, h.max_⟩

/-- A new slice of bytes. -/
theorem own_row {w2 : World} {b base : Nat} {bs : List Nat} (hr : Row w2 b 5 (u8s bs)) (hb : base ≤ b) (hm : bs.length ≤ 1000000) : Own w2 base (some ⟨b, 0, none⟩) bs.length bs :=
  ⟨by rw [u8s_length, Nat.mul_one], .inr ⟨b, bs.length, (u8s bs).toArray, rfl, hb, hr, Nat.le_refl _, by unfold maxLen; omega, by simp [u8s_length], by simp [List.take_of_length_le, u8s_length]⟩⟩
/-- What holds in Same's loop. -/
structure SaRel (w : World) (xs ys : List Nat) (i : Value) (wr : World) : Prop where
  ex : ∃ k : Nat, k ≤ xs.length ∧ i = .int .i64 k ∧ ∀ j, j < k → xs.getD j 0 = ys.getD j 0
  bel : Below w.heap.size w wr

theorem same_ext {xs ys : List Nat} (h : xs.length = ys.length) (hg : ∀ i, i < xs.length → xs.getD i 0 = ys.getD i 0) : xs = ys := by
  apply List.ext_getElem h
  intro i h1 h2
  have := hg i h1
  rwa [List.getD_eq_getElem?_getD, List.getD_eq_getElem?_getD, List.getElem?_eq_getElem h1, List.getElem?_eq_getElem h2] at this

set_option maxHeartbeats 1000000 in
set_option maxRecDepth 100000 in
theorem same_any (xs ys : List Nat) (p q : Option Addr) (c d : Nat) (w : World) (hp : Rd w p xs) (hq : Rd w q ys) (hx : xs.length ≤ 1000000) (hy : ys.length ≤ 1000000) :
    Calls Try.prog 12 #[.slice p xs.length c, .slice q ys.length d] w fun e w' => e = .returned (.bool (decide (xs = ys))) ∧ Below w.heap.size w w' := by
  have HP := Lib.hid hp; have HQ := Lib.hid hq; clear hp hq
  by_cases hl : xs.length = ys.length
  · have h0 : SaRel w xs ys (.int .i64 0) w := ⟨⟨0, by omega, rfl, fun j hj => by omega⟩, Below.refl _ _⟩
    have hl1 : ((xs.length : Int) != (ys.length : Int)) = false := by simp [hl]
    go_enter Try.func12, Try.ntmps12
    go_wp2_with fail
    go_loopw [5] (fun i wr => SaRel w xs ys i wr) (fun i _ => xs.length - (intOf i).toNat)
    case atStart => exact h0
    case round =>
      clear h0
      obtain ⟨⟨k, hk, rfl, hall⟩, hbel⟩ := hrel
      have HA := Lib.hid hall; clear hall
      by_cases hlt : k < xs.length
      · obtain ⟨g, o, rfl, hc1⟩ := (HP.out.below hbel).cell hlt
        obtain ⟨g2, o2, rfl, hc2⟩ := (HQ.out.below hbel).cell (i := k) (by omega)
        have ik1 : (k : Int) < (xs.length : Int) := by omega
        have ik2 : (k : Int) < (ys.length : Int) := by omega
        have HXK : ∃ u : Nat, xs.getD k 0 = u := ⟨_, rfl⟩
        have HYK : ∃ u : Nat, ys.getD k 0 = u := ⟨_, rfl⟩
        obtain ⟨x, hxk⟩ := HXK
        obtain ⟨y, hyk⟩ := HYK
        rw [hxk] at hc1
        rw [hyk] at hc2
        have HX := Lib.hid hxk; have HY := Lib.hid hyk; clear hxk hyk
        by_cases hxy : x = y
        · have hne : ((x : Int) != (y : Int)) = false := by simp [hxy]
          go_wp2_with fail
          go_quiet (fail)
          go_wp2_with fail
          go_roundw
          case rel => exact ⟨⟨k + 1, by omega, by go_num, fun j hj => by
            rcases Nat.lt_or_ge j k with h | h
            · exact HA.out j h
            · obtain rfl : j = k := by omega
              rw [HX.out, HY.out, hxy]⟩, hbel.trans (below_drewN _ _ _)⟩
          case measure => simp [intOf]; omega
        · have hne : ((x : Int) != (y : Int)) = true := by simp; omega
          go_wp2_with fail
          go_quiet (fail)
          go_wp2_with fail
          go_ret
          refine ⟨?_, hbel.trans (below_drewN _ _ _)⟩
          have : ¬ xs = ys := fun e => hxy (by rw [← HX.out, ← HY.out, e])
          rw [decide_eq_false this]; rfl
      · obtain rfl : k = xs.length := by omega
        go_wp2_with fail
        go_ret
        refine ⟨?_, hbel⟩
        have : xs = ys := same_ext hl (fun i hi => HA.out i hi)
        rw [decide_eq_true this]; rfl
  · have hl1 : ((xs.length : Int) != (ys.length : Int)) = true := by simp; omega
    have hne : ¬ xs = ys := fun e => hl (by rw [e])
    go_enter Try.func12, Try.ntmps12
    go_wp2_with fail
    go_ret
    refine ⟨?_, Below.refl _ _⟩
    rw [decide_eq_false hne]; rfl
end Go.Proofs.Yticdapgfjkhoaaa.Tg
