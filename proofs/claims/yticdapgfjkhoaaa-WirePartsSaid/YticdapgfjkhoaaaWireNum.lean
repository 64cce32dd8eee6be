/-
  The contracts of wire's Writer (number, Num, Long, Hash, Text, Bytes) and of bytes.Clone, over this seat's translation.
-/
import Derived.Test.YticdapgfjkhoaaaWireMem
namespace Go.Proofs.Yticdapgfjkhoaaa.Wi
open Go.ChangeShapes Go.WideShapes Go.ChangeAt Go.RowKit Go.Proofs.Yticdapgfjkhoaaa.Mem Go.Proofs.Yticdapgfjkhoaaa.Bt Go.Proofs.Yticdapgfjkhoaaa.Tg
set_option linter.unusedVariables false

/-- A writer's struct holds no byte. -/
theorem row_no_byte {w : World} {W o : Nat} {p : Option Addr} {n c : Nat} {t : TypeId} {v : Int} (hr : Row w W t [.slice p n c]) (h : w.cell? ⟨W, o, none⟩ = some (.int .u8 v)) : False := by
  simp only [World.cell?, show w.heap[W]? = _ from hr] at h
  match o, h with
  | 0, h => simp at h
  | n + 1, h => simp at h
/-- What holds in number's loop. -/
structure NuRel (w : World) (base W : Nat) (p : Option Addr) (bs : List Nat) (n s : Nat) (i : Value) (wr : World) : Prop where
  ex : ∃ k : Nat, k ≤ s ∧ i = .int .i64 k ∧ ∃ p' cap', Wr wr base W p' cap' (bs ++ (put n s).take k) ∧ Step (some W) p p' w wr
set_option maxHeartbeats 1000000 in
set_option maxRecDepth 100000 in
theorem wNumber_any (n s : Nat) (base W : Nat) (p : Option Addr) (cap : Nat) (bs : List Nat) (w : World) (h : Wr w base W p cap bs) (hb : base ≤ w.heap.size) (hl : bs.length ≤ 900000) (hn : n < 18446744073709551616) (hs : s ≤ 8) :
    Calls Try.prog 38 #[.pointer (some ⟨W, 0, none⟩), .int .u64 (n : Int), .int .i64 (s : Int)] w (WrPost w base W p (.tuple #[]) (bs ++ put n s)) := by
  have h0 : NuRel w base W p bs n s (.int .i64 0) w := ⟨0, by omega, rfl, p, cap, by rw [List.take_zero, List.append_nil]; exact h, Step.refl _ _ _⟩
  clear h
  go_enter Try.func38, Try.ntmps38
  go_wp2_with fail
  go_loopw [8] (fun i wr => NuRel w base W p bs n s i wr) (fun i _ => s - (intOf i).toNat)
  case atStart => exact h0
  case round =>
    clear h0
    obtain ⟨k, hk, rfl, q, c, hW, hS⟩ := hrel
    by_cases hlt : k < s
    · have ik : (k : Int) < (s : Int) := by omega
      have HW := Lib.hid hW; have HS := Lib.hid hS; clear hW hS
      have HV : Hid ((n : Int) / 2 ^ (8 * (s - 1 - k)) % 256 = ((n / 256 ^ (s - 1 - k) % 256 : Nat) : Int)) := Lib.hid (by
        rw [show (256 : Nat) ^ (s - 1 - k) = 2 ^ (8 * (s - 1 - k)) by rw [Nat.pow_mul]]
        simp)
      go_wp2_with fail
      rw [HV.out]
      refine (wByte_any _ base W q c _ wr HW.out (Nat.le_trans hb HS.out.size) (by rw [List.length_append, List.length_take]; omega)).mono ?_
      rintro e w2 ⟨rfl, q2, c2, hW2, hS2⟩
      go_wp2_with fail
      go_roundw
      case rel => exact ⟨k + 1, by omega, by go_num, q2, c2, by rw [put_take s n k hlt, ← List.append_assoc]; exact hW2, HS.out.trans hS2⟩
      case measure => simp [intOf]; omega
    · obtain rfl : k = s := by omega
      rw [List.take_of_length_le (by rw [put_length]; omega)] at hW
      go_wp2_with fail
      go_end0
      exact ⟨rfl, q, c, hW, hS⟩

set_option maxRecDepth 100000 in
theorem wNum_any (n : Nat) (base W : Nat) (p : Option Addr) (cap : Nat) (bs : List Nat) (w : World) (h : Wr w base W p cap bs) (hb : base ≤ w.heap.size) (hl : bs.length ≤ 900000) (hn : n < 4294967296) :
    Calls Try.prog 28 #[.pointer (some ⟨W, 0, none⟩), .int .u32 (n : Int)] w (WrPost w base W p (.tuple #[]) (bs ++ put n 4)) := by
  have H := Lib.hid h; clear h
  go_enter Try.func28, Try.ntmps28
  go_wp2_with fail
  refine (wNumber_any n 4 base W p cap bs w H.out hb hl (by omega) (by omega)).mono ?_
  rintro e w2 ⟨rfl, q2, c2, hW2, hS2⟩
  go_wp2_with fail
  go_end0
  exact ⟨rfl, q2, c2, hW2, hS2⟩
set_option maxRecDepth 100000 in
theorem wLong_any (n : Nat) (base W : Nat) (p : Option Addr) (cap : Nat) (bs : List Nat) (w : World) (h : Wr w base W p cap bs) (hb : base ≤ w.heap.size) (hl : bs.length ≤ 900000) (hn : n < 18446744073709551616) :
    Calls Try.prog 31 #[.pointer (some ⟨W, 0, none⟩), .int .u64 (n : Int)] w (WrPost w base W p (.tuple #[]) (bs ++ put n 8)) := by
  have H := Lib.hid h; clear h
  go_enter Try.func31, Try.ntmps31
  go_wp2_with fail
  refine (wNumber_any n 8 base W p cap bs w H.out hb hl hn (by omega)).mono ?_
  rintro e w2 ⟨rfl, q2, c2, hW2, hS2⟩
  go_wp2_with fail
  go_end0
  exact ⟨rfl, q2, c2, hW2, hS2⟩

set_option maxRecDepth 100000 in
theorem wText_any (ys : List Nat) (y : Option Addr) (yc : Nat) (base W : Nat) (p : Option Addr) (cap : Nat) (bs : List Nat) (w : World) (h : Wr w base W p cap bs) (hb : base ≤ w.heap.size) (hl : bs.length ≤ 900000)
    (hy : Rd w y ys) (hyn : y = none → ys.length = 0 ∧ yc = 0) (hyb : ys ≠ [] → Sep p y) (hm : ys.length ≤ maxLen) :
    Calls Try.prog 29 #[.pointer (some ⟨W, 0, none⟩), .slice y ys.length yc] w (WrPost w base W p (.bool (decide (ys.length ≤ 255))) (bs ++ txt ys)) := by
  have H := Lib.hid h; have HY := Lib.hid hy; have HYN := Lib.hid hyn; have HYB := Lib.hid hyb
  clear h hy hyn hyb
  unfold maxLen at hm
  by_cases hs : ys.length ≤ 255
  · have hd : decide ((255 : Int) < (ys.length : Int)) = false := decide_eq_false (by omega)
    rw [decide_eq_true hs, show txt ys = ys.length :: ys from if_pos hs]
    have HM : Hid ((ys.length : Int) % 256 = ((ys.length : Nat) : Int)) := Lib.hid (by omega)
    go_enter Try.func29, Try.ntmps29
    go_wp2_with fail
    try rw [HM.out]
    refine (wByte_any ys.length base W p cap bs w H.out hb (by omega)).mono ?_
    rintro e w1 ⟨rfl, q, c, hW1, hS1⟩
    have hc : w1.cell? ⟨W, 0, none⟩ = some (.slice q (bs.length + 1) c) := hW1.row.cell (by rw [List.length_append]; rfl)
    have HW := Lib.hid hW1
    have hr1 : Rd w1 y ys := ⟨fun hne => by
      obtain ⟨g, o, e, hr⟩ := HY.out.at_ hne
      have hne8 : u8s ys ≠ [] := by intro h; apply hne; simpa [u8s] using h
      have hg : g < w.heap.size := range_lt hr hne8
      refine ⟨g, o, e, range_block hr (hS1.block g hg (fun eW => ?_) (fun eP => HYB.out hne g eP (by rw [e]; rfl)))⟩
      obtain rfl : W = g := Option.some.inj eW
      obtain ⟨v, hv⟩ : ∃ v, ys[0]? = some v := ⟨_, List.getElem?_eq_getElem (List.length_pos_iff.2 hne)⟩
      exact row_no_byte H.out.row (hr 0 (.int .u8 (v : Int)) (by simp [u8s, hv]))⟩
    have HR := Lib.hid hr1
    clear hW1 hr1
    have hb1 : base ≤ w1.heap.size := Nat.le_trans hb hS1.size
    go_wp2_with (first
      | ((with_reducible refine at_slot 19 ?_); (refine arm_append2 (o := ⟨some 19, _, _, _, _, _⟩) rfl _ _ rfl base q (bs.length + 1) c (bs ++ [ys.length]) (by rw [List.length_append, List.length_singleton]) rfl HW.out.own y ys.length yc ys rfl rfl HYN.out HR.out.at_ (by rw [List.length_append, List.length_singleton]; omega) hb1 ?_); intro p2 cap2 w2 hO2 hS2; have hr2 := HW.out.row.of_block (hS2.block W HW.out.lt (by simp) HW.out.apart))
      | ((with_reducible refine arm_storeV (o := ⟨none, _, _, _, _, _⟩) rfl _ _ _ rfl W 0 rfl _ rfl rfl (by kernel_rfl) _ _ hr2 (by rw [List.length_cons]; omega) ?_); intro w3 hR3 hO3 hZ3))
    go_ret
    have hst := wr_stored HW.out.row HW.out.apart hS2 hO2 HW.out.low (by rw [List.length_append, List.length_append, List.length_singleton]; exact hR3) hO3
    exact ⟨rfl, p2, cap2, by have := hst.1; rw [List.append_assoc] at this; exact this, hS1.trans hst.2⟩
  · have hd : decide ((255 : Int) < (ys.length : Int)) = true := decide_eq_true (by omega)
    rw [decide_eq_false hs, show txt ys = [] from if_neg hs, List.append_nil]
    go_enter Try.func29, Try.ntmps29
    go_wp2_with fail
    go_ret
    exact ⟨rfl, p, cap, H.out, Step.refl _ _ _⟩
end Go.Proofs.Yticdapgfjkhoaaa.Wi
