/-
  The contracts of wire's Reader (number, Byte, Num, Long, Left, End), over this seat's translation.
-/
import Derived.Test.YticdapgfjkhoaaaWireRead
import Derived.PlainAid
namespace Go.Proofs.Yticdapgfjkhoaaa.Wi
open Go.ChangeShapes Go.WideShapes Go.ChangeAt Go.RowKit Go.Proofs.Yticdapgfjkhoaaa.Mem Go.Proofs.Yticdapgfjkhoaaa.Bt Go.Proofs.Yticdapgfjkhoaaa.Tg
set_option linter.unusedVariables false

theorem or_byte (x y : Nat) (hx : x < 256 ^ 7) (hy : y < 256) : bits BinOp.or IntKind.u64 ((x : Int) * 256) (y : Int) = ((x * 256 + y : Nat) : Int) := by
  have h := bits_or_u64_nat (x * 256) y (by omega) (by omega)
  rw [show ((x : Int) * 256) = ((x * 256 : Nat) : Int) by omega, h]
  congr 1
  rw [show x * 256 = 2 ^ 8 * x by omega]
  exact (Nat.two_pow_add_eq_or_of_lt (by omega) x).symm
/-- What holds in number's loop. -/
structure RnRel (w : World) (t : List Nat) (i v : Value) (wr : World) : Prop where
  ex : ∃ k : Nat, k ≤ t.length ∧ i = .int .i64 k ∧ v = .int .u64 ((numOf (t.take k) : Nat) : Int)
  same : w = wr
set_option maxHeartbeats 1000000 in
set_option maxRecDepth 100000 in
theorem rNumber_any (k R d : Nat) (s : RS) (w : World) (h : RdAt w R d s) (hk : k ≤ 8) (hm : s.1.length ≤ 1000000) :
    Calls Try.prog 34 #[.pointer (some ⟨R, 0, none⟩), .int .i64 (k : Int)] w (RdPost w R d (.int .u64 ((numR k s).1 : Int)) (numR k s).2) := by
  have hlt := takeR_lt (k := k) h.lt
  have hlen := takeR_len k s
  have H := Lib.hid h; clear h
  go_enter Try.func34, Try.ntmps34
  go_wp2_with fail
  refine (rTake_any k R d s w H.out (by omega) hm).mono ?_
  rintro e w1 ⟨⟨q, c, rfl, hrd, _⟩, hA, hO⟩
  have HA : Hid (RdAt w1 R d (numR k s).2) := Lib.hid hA
  have HN : Hid ((numR k s).1 = numOf (takeR k s).1) := Lib.hid rfl
  have HLT := Lib.hid hlt
  clear hA H hlt
  generalize (takeR k s).1 = t at hrd HN HLT hlen ⊢
  have h0 : RnRel w1 t (.int .i64 0) (.int .u64 0) w1 := ⟨⟨0, by omega, rfl, by simp [numOf]⟩, rfl⟩
  have HRD := Lib.hid hrd; clear hrd
  go_wp2_with fail
  go_loopw [13, 6] (fun i v wr => RnRel w1 t i v wr) (fun i _ _ => t.length - (intOf i).toNat)
  case atStart => exact h0
  case round =>
    clear h0
    obtain ⟨⟨j, hj, rfl, rfl⟩, rfl⟩ := hrel
    by_cases hlt : j < t.length
    · obtain ⟨g, o, rfl, hc⟩ := HRD.out.cell hlt
      have ij : (j : Int) < (t.length : Int) := by omega
      have HS := Lib.hid (take_snoc t j hlt)
      have hx : numOf (t.take j) < 256 ^ 7 := Nat.lt_of_lt_of_le (numOf_lt _ (mem_lt_take HLT.out j)) (Nat.pow_le_pow_right (by omega) (by rw [List.length_take]; omega))
      have hy : t.getD j 0 < 256 := getD_lt HLT.out (by omega) j
      generalize t.getD j 0 = y at hc hy HS
      generalize hxx : numOf (t.take j) = x at hx ⊢
      have HX := Lib.hid hxx; clear hxx
      go_wp2_with fail
      rw [or_byte x y hx hy]
      refine ⟨⟨⟨j + 1, by omega, by go_num, ?_⟩, rfl⟩, ?_⟩
      · rw [HS.out, numOf_snoc, HX.out]
      · simp [intOf]; omega
    · obtain rfl : j = t.length := by omega
      rw [List.take_of_length_le (Nat.le_refl _)]
      go_wp2_with fail
      go_ret
      exact ⟨by rw [HN.out]; rfl, HA.out, hO⟩
theorem numR_lt {k : Nat} {s : RS} (h : AllLt 256 s.1) : (numR k s).1 < 256 ^ k :=
  Nat.lt_of_lt_of_le (numOf_lt _ (takeR_lt h)) (Nat.pow_le_pow_right (by omega) (takeR_len k s))
set_option maxRecDepth 100000 in
theorem rByte_any (R d : Nat) (s : RS) (w : World) (h : RdAt w R d s) (hm : s.1.length ≤ 1000000) :
    Calls Try.prog 15 #[.pointer (some ⟨R, 0, none⟩)] w (RdPost w R d (.int .u8 ((numR 1 s).1 : Int)) (numR 1 s).2) := by
  have hlt := numR_lt (k := 1) h.lt
  have H := Lib.hid h; clear h
  go_enter Try.func15, Try.ntmps15
  go_wp2_with fail
  refine (rNumber_any 1 R d s w H.out (by omega) hm).mono ?_
  rintro e w1 ⟨rfl, hA, hO⟩
  generalize hn : (numR 1 s).1 = n at hlt ⊢
  have HN := Lib.hid hn; clear hn
  go_wp2_with fail
  go_ret
  exact ⟨by rw [HN.out]; simp, hA, hO⟩
set_option maxRecDepth 100000 in
theorem rNum_any (R d : Nat) (s : RS) (w : World) (h : RdAt w R d s) (hm : s.1.length ≤ 1000000) :
    Calls Try.prog 17 #[.pointer (some ⟨R, 0, none⟩)] w (RdPost w R d (.int .u32 ((numR 4 s).1 : Int)) (numR 4 s).2) := by
  have hlt := numR_lt (k := 4) h.lt
  have H := Lib.hid h; clear h
  go_enter Try.func17, Try.ntmps17
  go_wp2_with fail
  refine (rNumber_any 4 R d s w H.out (by omega) hm).mono ?_
  rintro e w1 ⟨rfl, hA, hO⟩
  generalize hn : (numR 4 s).1 = n at hlt ⊢
  have HN := Lib.hid hn; clear hn
  go_wp2_with fail
  go_ret
  exact ⟨by rw [HN.out]; simp, hA, hO⟩
set_option maxRecDepth 100000 in
theorem rLong_any (R d : Nat) (s : RS) (w : World) (h : RdAt w R d s) (hm : s.1.length ≤ 1000000) :
    Calls Try.prog 18 #[.pointer (some ⟨R, 0, none⟩)] w (RdPost w R d (.int .u64 ((numR 8 s).1 : Int)) (numR 8 s).2) := by
  have H := Lib.hid h; clear h
  go_enter Try.func18, Try.ntmps18
  go_wp2_with fail
  refine (rNumber_any 8 R d s w H.out (by omega) hm).mono ?_
  rintro e w1 ⟨rfl, hA, hO⟩
  generalize hn : (numR 8 s).1 = n
  have HN := Lib.hid hn; clear hn
  go_wp2_with fail
  go_ret
  exact ⟨by rw [HN.out]; rfl, hA, hO⟩
set_option maxRecDepth 100000 in
theorem rLeft_any (R d : Nat) (s : RS) (w : World) (h : RdAt w R d s) :
    Calls Try.prog 23 #[.pointer (some ⟨R, 0, none⟩)] w fun e w' => e = .returned (.int .i64 (s.1.length : Int)) ∧ w = w' := by
  obtain ⟨p, cap, h⟩ := h.ex
  have hc : w.cell? ⟨R, 0, none⟩ = some (.slice p s.1.length cap) := h.row.cell rfl
  clear h
  go_enter Try.func23, Try.ntmps23
  go_wp2_with fail
  go_ret
  exact ⟨rfl, rfl⟩
set_option maxRecDepth 100000 in
theorem rEnd_any (R d : Nat) (s : RS) (w : World) (h : RdAt w R d s) :
    Calls Try.prog 25 #[.pointer (some ⟨R, 0, none⟩)] w fun e w' => e = .returned (.int .i64 (endR s : Int)) ∧ w = w' := by
  obtain ⟨p, cap, h⟩ := h.ex
  have hc : w.cell? ⟨R, 0, none⟩ = some (.slice p s.1.length cap) := h.row.cell rfl
  have hc1 : w.cell? ⟨R, 1, none⟩ = some (.int .i64 (s.2 : Int)) := h.row.cell rfl
  clear h
  by_cases he : s.2 = 0
  · have hz : (((s.2 : Nat) : Int) != 0) = false := by rw [he]; rfl
    by_cases hb : s.1 = []
    · have hd : decide (0 < s.1.length) = false := decide_eq_false (by rw [hb]; simp)
      have HE : Hid (endR s = 0) := Lib.hid (by unfold endR; rw [if_neg (by omega), if_pos hb])
      clear he hb
      go_enter Try.func25, Try.ntmps25
      go_wp2_with fail
      go_ret
      exact ⟨by rw [HE.out]; rfl, rfl⟩
    · have hd : decide (0 < s.1.length) = true := decide_eq_true (List.length_pos_iff.2 hb)
      have HE : Hid (endR s = 4) := Lib.hid (by unfold endR; rw [if_neg (by omega), if_neg hb])
      clear he hb
      go_enter Try.func25, Try.ntmps25
      go_wp2_with fail
      go_ret
      exact ⟨by rw [HE.out]; rfl, rfl⟩
  · have hz : (((s.2 : Nat) : Int) != 0) = true := by simp; omega
    have HE : Hid (endR s = s.2) := Lib.hid (by unfold endR; rw [if_pos he])
    clear he
    go_enter Try.func25, Try.ntmps25
    go_wp2_with fail
    go_ret
    exact ⟨by rw [HE.out]; rfl, rfl⟩
theorem built_reader (p : Option Addr) (n c : Nat) : Try.prog.built 67 [(0, .slice p n c)] = some [.slice p n c, .int .i64 0].toArray := by kernel_rfl
/-- What New leaves. -/
structure NewPost (w : World) (bs : List Nat) (e : Ending) (w' : World) : Prop where
  ex : ∃ R d, e = .returned (.pointer (some ⟨R, 0, none⟩)) ∧ RdAt w' R d (bs, 0) ∧ w.heap.size ≤ R ∧ w.heap.size ≤ d
  bel : Below w.heap.size w w'
set_option maxRecDepth 100000 in
theorem rNew_any (bs : List Nat) (p : Option Addr) (cap : Nat) (w : World) (h : Rd w p bs) (hn : p = none → bs.length = 0 ∧ cap = 0) (hl : bs.length ≤ 1000000) (hlt : AllLt 256 bs) :
    Calls Try.prog 14 #[.slice p bs.length cap] w (NewPost w bs) := by
  have H := Lib.hid h; have HN := Lib.hid hn; have HLT := Lib.hid hlt
  clear h hn hlt
  go_enter Try.func14, Try.ntmps14
  go_wp2_with fail
  refine (clone_any bs p cap w H.out HN.out hl).mono ?_
  rintro e w1 ⟨⟨q, c, rfl, hO⟩, hB⟩
  have HO := Lib.hid hO; clear hO
  go_wp2_with (first
    | ((with_reducible refine at_slot 5 ?_); (refine arm_build (o := ⟨some 5, _, _, _, _, _⟩) rfl _ _ rfl [.slice q bs.length c, .int .i64 0] (by simp only [List.map_toArray, List.map_cons, List.map_nil]; exact built_reader _ _ _) ?_))
    | ((with_reducible refine at_slot 6 ?_); (refine arm_box (o := ⟨some 6, _, _, _, _, _⟩) rfl _ _ rfl [.slice q bs.length c, .int .i64 0] rfl ?_); intro R w2 hR hR2 hN2))
  go_ret
  have e1 := hR.out
  have hO2 := HO.out.below hN2.below
  have hs1 := hB.size
  have hs2 := hN2.size
  obtain ⟨d, hd1, hd2, hd3⟩ : ∃ d, (∀ k, blk q = some k → k = d) ∧ w.heap.size ≤ d ∧ d < w2.heap.size := by
    cases hq : blk q with
    | none => exact ⟨R, fun k hk => (by cases hk), by omega, hR2.lt⟩
    | some g => exact ⟨g, fun k hk => (Option.some.inj hk).symm, own_low hO2 g hq, (own_blk hO2 hq).2.1⟩
  exact ⟨⟨R, d, rfl, ⟨q, c, hR2, hO2.rd, hO2.at.1, fun e => (own_none hO2 e).2, HLT.out, hd1, hd3⟩, by omega, hd2⟩, below_step hB hB.size hN2.below⟩
end Go.Proofs.Yticdapgfjkhoaaa.Wi
