/-
  The contracts of the document's reader of layer 4 (Number, Hash, Text, Left, End), over this seat's translation.
-/
import Derived.Test.YticdapgfjkhoaaaWireRef
namespace Go.Proofs.Yticdapgfjkhoaaa.Wi
open Go.ChangeShapes Go.WideShapes Go.ChangeAt Go.RowKit Go.Proofs.Yticdapgfjkhoaaa.Mem Go.Proofs.Yticdapgfjkhoaaa.Bt Go.Proofs.Yticdapgfjkhoaaa.Tg
set_option linter.unusedVariables false
set_option linter.unusedSimpArgs false

/-- What a call of the document's reader leaves. -/
structure RfPost (w : World) (S D : Nat) (v : Value) (s : RS) (e : Ending) (w' : World) : Prop where
  ret : e = .returned v
  at_ : RfAt w' S D s
  only : Only S w w'
set_option maxHeartbeats 1000000 in
set_option maxRecDepth 100000 in
theorem fNumber_any (k S D : Nat) (s : RS) (w : World) (h : RfAt w S D s) (hk : k ≤ 8) :
    Calls Try.prog 16 #[.pointer (some ⟨S, 0, none⟩), .int .i64 (k : Int)] w (RfPost w S D (.int .u64 ((numR k s).1 : Int)) (numR k s).2) := by
  have hlt := takeR_lt (k := k) h.lt
  have hlen := takeR_len k s
  have H := Lib.hid h; clear h
  go_enter Try.func16, Try.ntmps16
  go_wp2_with fail
  refine (fTake_any k S D s w H.out (by omega)).mono ?_
  rintro e w1 ⟨⟨q, c, rfl, hrd, _⟩, hA, hO⟩
  have HA : Hid (RfAt w1 S D (numR k s).2) := Lib.hid hA
  have HN : Hid ((numR k s).1 = numOf (takeR k s).1) := Lib.hid rfl
  have HLT := Lib.hid hlt
  clear hA H hlt
  generalize (takeR k s).1 = t at hrd HN HLT hlen ⊢
  have h0 : RnRel w1 t (.int .i64 0) (.int .u64 0) w1 := ⟨⟨0, by omega, rfl, by simp [numOf]⟩, rfl⟩
  have HRD := Lib.hid hrd; clear hrd
  go_wp2_with fail
  go_loopw [7, 6] (fun i v wr => RnRel w1 t i v wr) (fun i _ _ => t.length - (intOf i).toNat)
  case atStart => exact h0
  case round =>
    clear h0
    obtain ⟨⟨j, hj, rfl, rfl⟩, rfl⟩ := hrel
    by_cases hlt : j < t.length
    · obtain ⟨g, o, rfl, hc⟩ := HRD.out.cell hlt
      have ij : (j : Int) < (t.length : Int) := by omega
      have HS := Lib.hid (take_snoc t j hlt)
      have hx : numOf (t.take j) < 256 ^ 7 := Nat.lt_of_lt_of_le (numOf_lt _ (mem_lt_take HLT.out j)) (Nat.pow_le_pow_right (by omega) (by rw [List.length_take]; omega))
      have hy : t.getD j 0 < 256 := getD_lt HLT.out (by omega) j
      generalize t.getD j 0 = y at hc hy HS
      generalize hxx : numOf (t.take j) = x at hx ⊢
      have HX := Lib.hid hxx; clear hxx
      have hx2 : (x : Int) < 72057594037927936 := by omega
      go_wp2_with fail
      refine ⟨⟨⟨j + 1, by omega, by go_num, ?_⟩, rfl⟩, ?_⟩
      · rw [HS.out, numOf_snoc, HX.out]; congr 1; first | omega | (rw [IntKind.wrap_u64, IntKind.wrap_u64]; omega) | (rw [IntKind.wrap_u64]; omega)
      · simp [intOf]; omega
    · obtain rfl : j = t.length := by omega
      rw [List.take_of_length_le (Nat.le_refl _)]
      go_wp2_with fail
      go_ret
      exact ⟨by rw [HN.out]; rfl, HA.out, hO⟩
set_option maxRecDepth 100000 in
theorem fLeft_any (S D : Nat) (s : RS) (w : World) (h : RfAt w S D s) :
    Calls Try.prog 24 #[.pointer (some ⟨S, 0, none⟩)] w fun e w' => e = .returned (.int .i64 (s.1.length : Int)) ∧ Below w.heap.size w w' := by
  obtain ⟨p, cap, B, at_, e, h, habs, hBl⟩ := h.ex
  have hc2 : w.cell? ⟨S, 2, none⟩ = some (.int .i64 (e : Int)) := h.row.cell rfl
  have hal := h.at_le
  by_cases he : e = 0
  · subst he
    have hc0 : w.cell? ⟨S, 0, none⟩ = some (.slice p B.length cap) := h.row.cell rfl
    have hc1 : w.cell? ⟨S, 1, none⟩ = some (.int .i64 (at_ : Int)) := h.row.cell rfl
    clear h
    rw [absR_ok] at habs
    subst habs
    have HL : Hid (((B.drop at_).length : Int) = (B.length : Int) - (at_ : Int)) := Lib.hid (by rw [List.length_drop]; omega)
    rw [show ((B.drop at_, 0) : RS).1.length = (B.drop at_).length from rfl, HL.out]
    go_enter Try.func24, Try.ntmps24
    go_wp2_with fail
    go_quiet (fail)
    go_wp2_with fail
    go_ret
    exact ⟨rfl, below_drewN _ _ _⟩
  · have hz : ((e : Int) != 0) = true := by simp; omega
    clear h
    rw [absR_bad B at_ e he] at habs
    subst habs
    clear he
    go_enter Try.func24, Try.ntmps24
    go_wp2_with fail
    go_ret
    exact ⟨rfl, Below.refl _ _⟩
set_option maxRecDepth 100000 in
theorem fEnd_any (S D : Nat) (s : RS) (w : World) (h : RfAt w S D s) :
    Calls Try.prog 26 #[.pointer (some ⟨S, 0, none⟩)] w fun e w' => e = .returned (.int .i64 (endR s : Int)) ∧ Below w.heap.size w w' := by
  obtain ⟨p, cap, B, at_, e, h, habs, hBl⟩ := h.ex
  have hc2 : w.cell? ⟨S, 2, none⟩ = some (.int .i64 (e : Int)) := h.row.cell rfl
  have hc0 : w.cell? ⟨S, 0, none⟩ = some (.slice p B.length cap) := h.row.cell rfl
  have hc1 : w.cell? ⟨S, 1, none⟩ = some (.int .i64 (at_ : Int)) := h.row.cell rfl
  have hal := h.at_le
  clear h
  by_cases he : e = 0
  · subst he
    rw [absR_ok] at habs
    subst habs
    by_cases hb : at_ < B.length
    · have HE : Hid (endR (B.drop at_, 0) = 4) := Lib.hid (by
        unfold endR
        rw [if_neg (by simp), if_neg (by intro h; have := congrArg List.length h; simp at this; omega)])
      have ib : (at_ : Int) < (B.length : Int) := by omega
      have hd : decide ((at_ : Int) < (B.length : Int)) = true := decide_eq_true (by omega)
      rw [HE.out]
      go_enter Try.func26, Try.ntmps26
      go_wp2_with fail
      go_quiet (fail)
      go_wp2_with fail
      go_ret
      exact ⟨rfl, below_drewN _ _ _⟩
    · have HE : Hid (endR (B.drop at_, 0) = 0) := Lib.hid (by
        unfold endR
        rw [if_neg (by simp), if_pos (List.drop_eq_nil_of_le (by omega))])
      have hd : decide ((at_ : Int) < (B.length : Int)) = false := decide_eq_false (by omega)
      rw [HE.out]
      have hc2' : ∀ n, (w.drewN n).cell? ⟨S, 2, none⟩ = some (.int .i64 ((0 : Nat) : Int)) := fun n => hc2
      go_enter Try.func26, Try.ntmps26
      go_wp2_with fail
      go_quiet (fail)
      go_wp2_with fail
      go_ret
      exact ⟨rfl, below_drewN _ _ _⟩
  · have hz : ((e : Int) == 0) = false := by simp; omega
    have HE : Hid (endR (([], e) : RS) = e) := Lib.hid (by unfold endR; rw [if_pos (by simpa using he)])
    rw [absR_bad B at_ e he] at habs
    subst habs
    rw [HE.out]
    clear he
    have hc2' : ∀ n, (w.drewN n).cell? ⟨S, 2, none⟩ = some (.int .i64 (e : Int)) := fun n => hc2
    go_enter Try.func26, Try.ntmps26
    go_wp2_with fail
    go_quiet (fail)
    go_wp2_with fail
    go_ret
    exact ⟨rfl, below_drewN _ _ _⟩
end Go.Proofs.Yticdapgfjkhoaaa.Wi
