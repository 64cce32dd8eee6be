/-
  What a thing is written as; the contract of layer 4's write, over this seat's translation.
-/
import Derived.Test.YticdapgfjkhoaaaWireThing
namespace Go.Proofs.Yticdapgfjkhoaaa.Wi
open Go.ChangeShapes Go.WideShapes Go.ChangeAt Go.RowKit Go.Proofs.Yticdapgfjkhoaaa.Mem Go.Proofs.Yticdapgfjkhoaaa.Bt Go.Proofs.Yticdapgfjkhoaaa.Tg
set_option linter.unusedVariables false

/-- The bytes of a thing. -/
def encT (x : Thing) : List Nat :=
  if x.kind = 0 then [x.n % 256] else if x.kind = 1 then put x.n 4 else if x.kind = 2 then put x.n 8 else if x.kind = 3 then x.h else if x.kind = 4 then txt x.b else []
/-- May it be written? -/
def okT (x : Thing) : Bool := !(decide (x.kind = 4) && decide (255 < x.b.length))
/-- The bytes of things. -/
def encs : List Thing → List Nat
  | [] => []
  | x :: l => encT x ++ encs l
theorem encs_append (l m : List Thing) : encs (l ++ m) = encs l ++ encs m := by
  induction l with
  | nil => rfl
  | cons x l ih => simp [encs, ih]
theorem encs_take (l : List Thing) (k : Nat) (h : k < l.length) : encs (l.take (k + 1)) = encs (l.take k) ++ encT (l.getD k default) := by
  rw [List.take_add_one, List.getElem?_eq_getElem h, encs_append]
  simp [encs, List.getD_eq_getElem?_getD, List.getElem?_eq_getElem h]
theorem encs_drop (l : List Thing) (k : Nat) (h : k < l.length) : encs (l.drop k) = encT (l.getD k default) ++ encs (l.drop (k + 1)) := by
  rw [List.drop_eq_getElem_cons h]
  simp [encs, List.getD_eq_getElem?_getD, List.getElem?_eq_getElem h]
theorem encT_len (x : Thing) (h : x.h.length = 32) : (encT x).length ≤ 256 := by
  unfold encT
  split
  · simp
  · split
    · rw [put_length]; omega
    · split
      · rw [put_length]; omega
      · split
        · omega
        · split
          · unfold txt
            split
            · rw [List.length_cons]; omega
            · simp
          · simp
theorem encs_len (l : List Thing) (h : ∀ x ∈ l, x.h.length = 32) : (encs l).length ≤ 256 * l.length := by
  induction l with
  | nil => simp [encs]
  | cons x l ih =>
    have h1 := encT_len x (h x (by simp))
    have h2 := ih (fun y hy => h y (by simp [hy]))
    simp only [encs, List.length_append, List.length_cons]
    omega
theorem encT_lt {w : World} (x : Thing) (h : ThingOk w x) : AllLt 256 (encT x) := by
  unfold encT
  split
  · intro y hy; simp at hy; omega
  · split
    · exact put_lt _ _
    · split
      · exact put_lt _ _
      · split
        · exact h.hlt
        · split
          · unfold txt
            split
            · intro y hy
              rcases List.mem_cons.1 hy with rfl | hy
              · omega
              · exact h.came.lt_ y hy
            · intro y hy; cases hy
          · intro y hy; cases hy
theorem encs_lt {w : World} (l : List Thing) (h : ∀ x ∈ l, ThingOk w x) : AllLt 256 (encs l) := by
  induction l with
  | nil => intro y hy; cases hy
  | cons x l ih => exact append_lt (encT_lt x (h x (by simp))) (ih (fun y hy => h y (by simp [hy])))
theorem put1 (n : Nat) : put n 1 = [n % 256] := rfl

set_option maxHeartbeats 1000000 in
set_option maxRecDepth 100000 in
theorem write_any (x : Thing) (base W : Nat) (p : Option Addr) (cap : Nat) (bs : List Nat) (w : World) (h : Wr w base W p cap bs) (hb : base ≤ w.heap.size) (hl : bs.length ≤ 800000) (hx : ThingOk w x) (hsep : x.b ≠ [] → Sep p x.bp) :
    Calls Try.prog 9 #[.pointer (some ⟨W, 0, none⟩), .agg (tcells x).toArray] w (WrPost w base W p (.bool (okT x)) (bs ++ encT x)) := by
  have HX := Lib.hid hx; have HSEP := Lib.hid hsep
  have hmx := hx.came.max_
  have hcp := hx.came.cap_
  have hn := hx.n_
  have HTL := Lib.hid (tcells_len hx.h_)
  have H34 := Lib.hid (tcells34 hx.h_)
  have H := Lib.hid h
  clear h hx hsep
  obtain ⟨tc, htc⟩ : ∃ tc, tc = tcells x := ⟨_, rfl⟩
  have HTC := Lib.hid htc
  rw [← htc] at HTL H34
  rw [← htc]
  clear htc
  have H0 : Hid (tc[0]? = some (.int .i64 x.kind)) := Lib.hid (by rw [HTC.out]; rfl)
  have H1 : Hid (tc[1]? = some (.int .u64 (x.n : Int))) := Lib.hid (by rw [HTC.out]; rfl)
  have HE : Hid (encT x = encT x) := Lib.hid rfl
  have HO : Hid (okT x = okT x) := Lib.hid rfl
  by_cases k0 : x.kind = 0
  · have HV : Hid ((x.n : Int) % 256 = ((x.n % 256 : Nat) : Int)) := Lib.hid (by omega)
    have HE : Hid (encT x = [x.n % 256]) := Lib.hid (by unfold encT; rw [if_pos k0])
    have HO : Hid (okT x = true) := Lib.hid (by unfold okT; rw [k0]; rfl)
    rw [k0] at H0
    rw [HE.out, HO.out]
    clear k0
    go_enter Try.func9, Try.ntmps9
    go_wp2_with (first
      | ((with_reducible refine at_slot 3 ?_); (refine arm_box (o := ⟨some 3, _, _, _, _, _⟩) rfl _ _ rfl tc rfl ?_); intro X w1 hXe hR1 hN1; have c0 := hR1.cell H0.out; have c1 := hR1.cell H1.out))
    rw [HV.out]
    refine (wByte_any _ base W p cap bs w1 (H.out.old hN1.below) (Nat.le_trans hb hN1.below.size) (by omega)).mono ?_
    rintro e w2 ⟨rfl, q, c, hW2, hS2⟩
    go_wp2_with fail
    go_ret
    exact ⟨rfl, q, c, hW2, (Step.of_below _ _ hN1.below).trans hS2⟩
  by_cases k1 : x.kind = 1
  · have HV : Hid ((x.n : Int) % 4294967296 = ((x.n % 4294967296 : Nat) : Int)) := Lib.hid (by omega)
    have HE : Hid (encT x = put (x.n % 4294967296) 4) := Lib.hid (by unfold encT; rw [if_neg k0, if_pos k1]; exact (put_mod 4 x.n).symm)
    have HO : Hid (okT x = true) := Lib.hid (by unfold okT; rw [k1]; rfl)
    rw [k1] at H0
    rw [HE.out, HO.out]
    clear k0 k1
    go_enter Try.func9, Try.ntmps9
    go_wp2_with (first
      | ((with_reducible refine at_slot 3 ?_); (refine arm_box (o := ⟨some 3, _, _, _, _, _⟩) rfl _ _ rfl tc rfl ?_); intro X w1 hXe hR1 hN1; have c0 := hR1.cell H0.out; have c1 := hR1.cell H1.out))
    rw [HV.out]
    refine (wNum_any _ base W p cap bs w1 (H.out.old hN1.below) (Nat.le_trans hb hN1.below.size) (by omega) (by omega)).mono ?_
    rintro e w2 ⟨rfl, q, c, hW2, hS2⟩
    go_wp2_with fail
    go_ret
    exact ⟨rfl, q, c, hW2, (Step.of_below _ _ hN1.below).trans hS2⟩
  by_cases k2 : x.kind = 2
  · have HE : Hid (encT x = put x.n 8) := Lib.hid (by unfold encT; rw [if_neg k0, if_neg k1, if_pos k2])
    have HO : Hid (okT x = true) := Lib.hid (by unfold okT; rw [k2]; rfl)
    rw [k2] at H0
    rw [HE.out, HO.out]
    clear k0 k1 k2
    go_enter Try.func9, Try.ntmps9
    go_wp2_with (first
      | ((with_reducible refine at_slot 3 ?_); (refine arm_box (o := ⟨some 3, _, _, _, _, _⟩) rfl _ _ rfl tc rfl ?_); intro X w1 hXe hR1 hN1; have c0 := hR1.cell H0.out; have c1 := hR1.cell H1.out))
    refine (wLong_any _ base W p cap bs w1 (H.out.old hN1.below) (Nat.le_trans hb hN1.below.size) (by omega) hn).mono ?_
    rintro e w2 ⟨rfl, q, c, hW2, hS2⟩
    go_wp2_with fail
    go_ret
    exact ⟨rfl, q, c, hW2, (Step.of_below _ _ hN1.below).trans hS2⟩
  by_cases k3 : x.kind = 3
  · have HE : Hid (encT x = x.h) := Lib.hid (by unfold encT; rw [if_neg k0, if_neg k1, if_neg k2, if_pos k3])
    have HO : Hid (okT x = true) := Lib.hid (by unfold okT; rw [k3]; rfl)
    rw [k3] at H0
    rw [HE.out, HO.out]
    clear k0 k1 k2 k3
    go_enter Try.func9, Try.ntmps9
    go_wp2_with (first
      | ((with_reducible refine at_slot 3 ?_); (refine arm_box (o := ⟨some 3, _, _, _, _, _⟩) rfl _ _ rfl tc rfl ?_); intro X w1 hXe hR1 hN1; have c0 := hR1.cell H0.out; have c1 := hR1.cell H1.out)
      | ((with_reducible refine at_slot 31 ?_); (refine arm_load (o := ⟨some 31, _, _, _, _, _⟩) rfl _ _ rfl X 2 rfl (u8s x.h) (tcells_hash (hR1.congr HTC.out)) (by rw [u8s_length, HX.out.h_]; exact sz_hash) ?_)))
    refine (wHash_any x.h base W p cap bs w1 (H.out.old hN1.below) (Nat.le_trans hb hN1.below.size) (by omega) HX.out.h_).mono ?_
    rintro e w2 ⟨rfl, q, c, hW2, hS2⟩
    go_wp2_with fail
    go_ret
    exact ⟨rfl, q, c, hW2, (Step.of_below _ _ hN1.below).trans hS2⟩
  by_cases k4 : x.kind = 4
  · have HE : Hid (encT x = txt x.b) := Lib.hid (by unfold encT; rw [if_neg k0, if_neg k1, if_neg k2, if_neg k3, if_pos k4])
    have HO : Hid (okT x = decide (x.b.length ≤ 255)) := Lib.hid (by
      unfold okT; rw [k4]
      by_cases h : x.b.length ≤ 255
      · rw [decide_eq_true h, decide_eq_false (by omega : ¬ 255 < x.b.length)]; rfl
      · rw [decide_eq_false h, decide_eq_true (by omega : 255 < x.b.length)]; rfl)
    rw [k4] at H0
    rw [HE.out, HO.out]
    clear k0 k1 k2 k3 k4
    go_enter Try.func9, Try.ntmps9
    go_wp2_with (first
      | ((with_reducible refine at_slot 3 ?_); (refine arm_box (o := ⟨some 3, _, _, _, _, _⟩) rfl _ _ rfl tc rfl ?_); intro X w1 hXe hR1 hN1; have c0 := hR1.cell H0.out; have c34 := hR1.cell H34.out))
    refine (wText_any x.b x.bp x.bc base W p cap bs w1 (H.out.old hN1.below) (Nat.le_trans hb hN1.below.size) (by omega) (HX.out.came.below hN1.below).rd (fun e => ⟨by have h1 := HX.out.came.nil_ e; omega, HX.out.came.nil_ e⟩) HSEP.out (by omega)).mono ?_
    rintro e w2 ⟨rfl, q, c, hW2, hS2⟩
    go_wp2_with fail
    go_ret
    exact ⟨rfl, q, c, hW2, (Step.of_below _ _ hN1.below).trans hS2⟩
  · have HE : Hid (encT x = []) := Lib.hid (by unfold encT; rw [if_neg k0, if_neg k1, if_neg k2, if_neg k3, if_neg k4])
    have HO : Hid (okT x = true) := Lib.hid (by unfold okT; rw [decide_eq_false k4]; rfl)
    rw [HE.out, HO.out, List.append_nil]
    have e0 : (x.kind == 0) = false := beq_eq_false_iff_ne.2 k0
    have e1 : (x.kind == 1) = false := beq_eq_false_iff_ne.2 k1
    have e2 : (x.kind == 2) = false := beq_eq_false_iff_ne.2 k2
    have e3 : (x.kind == 3) = false := beq_eq_false_iff_ne.2 k3
    have e4 : (x.kind == 4) = false := beq_eq_false_iff_ne.2 k4
    clear k0 k1 k2 k3 k4
    go_enter Try.func9, Try.ntmps9
    go_wp2_with (first
      | ((with_reducible refine at_slot 3 ?_); (refine arm_box (o := ⟨some 3, _, _, _, _, _⟩) rfl _ _ rfl tc rfl ?_); intro X w1 hXe hR1 hN1; have c0 := hR1.cell H0.out))
    go_ret
    exact ⟨rfl, p, cap, H.out.old hN1.below, Step.of_below _ _ hN1.below⟩
end Go.Proofs.Yticdapgfjkhoaaa.Wi
