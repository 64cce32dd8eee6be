/-
  The document's reader of layer 4: its memory, and the contract of Take, over this seat's translation.
-/
import Derived.Test.YticdapgfjkhoaaaWireLaws3
namespace Go.Proofs.Yticdapgfjkhoaaa.Wi
open Go.ChangeShapes Go.WideShapes Go.ChangeAt Go.RowKit Go.Proofs.Yticdapgfjkhoaaa.Mem Go.Proofs.Yticdapgfjkhoaaa.Bt Go.Proofs.Yticdapgfjkhoaaa.Tg
set_option linter.unusedVariables false
set_option linter.unusedSimpArgs false

/-- The state of a reader that is at this place of some bytes. -/
def absR (B : List Nat) (at_ e : Nat) : RS := if e = 0 then (B.drop at_, 0) else ([], e)
def fcells (p : Option Addr) (n cap at_ e : Nat) : List Value := [.slice p n cap, .int .i64 (at_ : Int), .int .i64 (e : Int)]
theorem fcells_no (p : Option Addr) (n cap at_ e : Nat) : ∀ (i : Nat) (m : Int), (fcells p n cap at_ e)[i]? ≠ some (.int .u8 m) := by
  intro i m
  match i with
  | 0 => simp [fcells]
  | 1 => simp [fcells]
  | 2 => simp [fcells]
  | i + 3 => simp [fcells]
/-- The document's reader, in this state. -/
structure Rf (w : World) (S D : Nat) (p : Option Addr) (cap : Nat) (B : List Nat) (at_ e : Nat) : Prop where
  row : Row w S 45 (fcells p B.length cap at_ e)
  rd : Rd w p B
  le : B.length ≤ cap
  nil_ : p = none → cap = 0
  lt : AllLt 256 B
  at_le : at_ ≤ B.length
  low : B ≠ [] → ∀ k, blk p = some k → k < D
  dle : D ≤ w.heap.size
structure RfAt (w : World) (S D : Nat) (s : RS) : Prop where
  ex : ∃ p cap B at_ e, Rf w S D p cap B at_ e ∧ absR B at_ e = s ∧ B.length ≤ 100000
theorem RfAt.row_lt {w : World} {S D : Nat} {s : RS} (h : RfAt w S D s) : S < w.heap.size := by obtain ⟨p, cap, B, a, e, h, _⟩ := h.ex; exact h.row.lt
theorem RfAt.old {w w' : World} {S D : Nat} {s : RS} (h : RfAt w S D s) (hb : Below w.heap.size w w') : RfAt w' S D s := by
  obtain ⟨p, cap, B, a, e, h, ha, hl⟩ := h.ex
  exact ⟨p, cap, B, a, e, ⟨h.row.old hb, h.rd.below hb, h.le, h.nil_, h.lt, h.at_le, h.low, Nat.le_trans h.dle hb.size⟩, ha, hl⟩
/-- Another struct has changed. -/
theorem RfAt.only {w w' : World} {S R D : Nat} {s : RS} {t : TypeId} {cs : List Value} (h : RfAt w S D s) (hr : Row w R t cs) (hno : ∀ (i : Nat) (n : Int), cs[i]? ≠ some (.int .u8 n)) (ho : Only R w w') (hne : S ≠ R) : RfAt w' S D s := by
  obtain ⟨p, cap, B, a, e, h, ha, hl⟩ := h.ex
  exact ⟨p, cap, B, a, e, ⟨h.row.only ho hne, Rd_only h.rd hr hno ho, h.le, h.nil_, h.lt, h.at_le, h.low, Nat.le_trans h.dle ho.size⟩, ha, hl⟩
/-- A block that is neither the struct's nor as old as the bytes has changed. -/
theorem RfAt.other {w w' : World} {S D X : Nat} {s : RS} (h : RfAt w S D s) (ho : Only X w w') (hne : S ≠ X) (hX : D ≤ X) : RfAt w' S D s := by
  obtain ⟨p, cap, B, a, e, h, ha, hl⟩ := h.ex
  refine ⟨p, cap, B, a, e, ⟨h.row.only ho hne, ⟨fun hb => ?_⟩, h.le, h.nil_, h.lt, h.at_le, h.low, Nat.le_trans h.dle ho.size⟩, ha, hl⟩
  obtain ⟨g, o, e, hr⟩ := h.rd.at_ hb
  have hg := h.low hb g (by rw [e]; rfl)
  have hne8 : u8s B ≠ [] := by intro h; apply hb; simpa [u8s] using h
  exact ⟨g, o, e, range_block hr (ho.block g (range_lt hr hne8) (by omega))⟩
theorem RfAt.dle {w : World} {S D : Nat} {s : RS} (h : RfAt w S D s) : D ≤ w.heap.size := by obtain ⟨p, cap, B, a, e, h, _⟩ := h.ex; exact h.dle
theorem absR_lt {B : List Nat} (h : AllLt 256 B) (a e : Nat) : AllLt 256 (absR B a e).1 := by
  unfold absR; split
  · exact fun x hx => h x (List.mem_of_mem_drop hx)
  · intro x hx; cases hx
theorem RfAt.lt {w : World} {S D : Nat} {s : RS} (h : RfAt w S D s) : AllLt 256 s.1 := by
  obtain ⟨p, cap, B, a, e, h, ha, _⟩ := h.ex
  rw [← ha]; exact absR_lt h.lt a e
/-- What the document's Take leaves. -/
structure RfTake (w : World) (S D k : Nat) (s : RS) (e : Ending) (w' : World) : Prop where
  ex : ∃ q c, e = .returned (.slice q (takeR k s).1.length c) ∧ Rd w' q (takeR k s).1 ∧ (q = none → (takeR k s).1.length = 0 ∧ c = 0) ∧ ∀ j, blk q = some j → w.heap.size ≤ j
  at_ : RfAt w' S D (takeR k s).2
  only : Only S w w'
theorem absR_bad (B : List Nat) (a e : Nat) (h : e ≠ 0) : absR B a e = ([], e) := by unfold absR; rw [if_neg h]
theorem absR_ok (B : List Nat) (a : Nat) : absR B a 0 = (B.drop a, 0) := by unfold absR; rw [if_pos rfl]
theorem takeR_bad (k e : Nat) (h : e ≠ 0) : takeR k ([], e) = ([], ([], e)) := by
  unfold takeR failed
  split
  · simp
  · simp [h]
theorem onP_eq_none {p : Option Addr} {m cap : Nat} (h : onP p m cap = none) : p = none := by
  cases p with
  | none => rfl
  | some ad => unfold onP at h; split at h <;> simp at h
theorem wrap_small {m n : Int} (h0 : -4611686018427387904 ≤ m + n) (h1 : m + n ≤ 4611686018427387904) : IntKind.i64.wrap (m + n) = m + n := by
  simp [IntKind.wrap, IntKind.signed, IntKind.bits]; omega
theorem run_op_bs0 {o : Oper} {a : Act} (ho : o.op = .buildSlice 26 0 #[]) (w : World) : (execOp a.eval o).run Try.prog w = .ok (.value (.slice (some ⟨w.heap.size, 0, none⟩) 0 0)) (w.alloc (.cells #[] 5)) := by
  unfold execOp
  simp only [ho, List.map_toArray, List.map_nil, Sem.run_bind, bs0 w, Result.andThen_ok, Sem.run_pure]

set_option maxHeartbeats 1000000 in
set_option maxRecDepth 100000 in
theorem fTake_any (k S D : Nat) (s : RS) (w : World) (h : RfAt w S D s) (hk : k ≤ 1000000) :
    Calls Try.prog 35 #[.pointer (some ⟨S, 0, none⟩), .int .i64 (k : Int)] w (RfTake w S D k s) := by
  obtain ⟨p, cap, B, at_, e, h, habs, hBl⟩ := h.ex
  have H := Lib.hid h
  have hc2 : w.cell? ⟨S, 2, none⟩ = some (.int .i64 (e : Int)) := h.row.cell rfl
  have hle := h.le
  have hal := h.at_le
  by_cases he : e = 0
  · subst he
    have hc0 : w.cell? ⟨S, 0, none⟩ = some (.slice p B.length cap) := h.row.cell rfl
    have hc1 : w.cell? ⟨S, 1, none⟩ = some (.int .i64 (at_ : Int)) := h.row.cell rfl
    clear h
    rw [absR_ok] at habs
    subst habs
    by_cases hs : k ≤ B.length - at_
    · have hd : decide ((B.length : Int) - (at_ : Int) < (k : Int)) = false := decide_eq_false (by omega)
      have HT : Hid (takeR k (B.drop at_, 0) = ((B.drop at_).take k, (B.drop (at_ + k), 0))) := Lib.hid (by unfold takeR; rw [if_pos (by simpa using hs)]; simp [List.drop_drop])
      go_enter Try.func35, Try.ntmps35
      go_wp2_with fail
      go_quiet (fail)
      go_wp2_with fail
      have hRz : Row (w.drewN nq).drew S 45 (fcells p B.length cap at_ 0) := H.out.row
      have hRdz : Rd (w.drewN nq).drew p B := H.out.rd.below ((below_drewN _ _ _).trans ((Below.refl _ _).drew))
      have bz : Below w.heap.size w (w.drewN nq).drew := (below_drewN _ _ _).trans ((Below.refl _ _).drew)
      clear hc0 hc1 hc2
      refine wp_region_held (S := fun w' => Row w' S 45 (fcells p B.length cap at_ 0)) (by kernel_rfl) ?_
      change wpAnyH _ _ _ _ _ _ _ _ (w.drewN nq).drew
      generalize (w.drewN nq).drew = wz at hRz hRdz bz ⊢
      refine h_take 1 (.pointer (some ⟨S, 0, none⟩)) rfl 27 rfl (by kernel_rfl) (by kernel_rfl) (by kernel_rfl) (by kernel_rfl) (fun _ _ _ h => h) (fun w' _ => by kernel_rfl) hRz ?_
      simp only [Act.put, List.setIfInBounds_toArray, List.set_cons_zero, List.set_cons_succ]
      refine h_take 2 (.pointer (some ⟨S, 0, none⟩)) rfl 28 rfl (by kernel_rfl) (by kernel_rfl) (by kernel_rfl) (by kernel_rfl) (fun _ _ _ h => h) (fun w' _ => by kernel_rfl) hRz ?_
      simp only [Act.put, List.setIfInBounds_toArray, List.set_cons_zero, List.set_cons_succ]
      refine h_take 3 (.pointer (some ⟨S, 0, none⟩)) rfl 29 rfl (by kernel_rfl) (by kernel_rfl) (by kernel_rfl) (by kernel_rfl) (fun _ _ _ h => h) (fun w' _ => by kernel_rfl) hRz ?_
      simp only [Act.put, List.setIfInBounds_toArray, List.set_cons_zero, List.set_cons_succ]
      refine h_take 4 (.slice p B.length cap) rfl 30 rfl (by kernel_rfl) (by kernel_rfl) (by kernel_rfl) (by kernel_rfl) (fun _ _ _ h => h) (fun w' hC => run_op_load1 _ _ rfl (.slice 5) (by kernel_rfl) rfl _ rfl _ (hC.cell rfl)) hRz ?_
      simp only [Act.put, List.setIfInBounds_toArray, List.set_cons_zero, List.set_cons_succ]
      refine h_take 5 (.pointer (some ⟨S, 0, none⟩)) rfl 31 rfl (by kernel_rfl) (by kernel_rfl) (by kernel_rfl) (by kernel_rfl) (fun _ _ _ h => h) (fun w' _ => by kernel_rfl) hRz ?_
      simp only [Act.put, List.setIfInBounds_toArray, List.set_cons_zero, List.set_cons_succ]
      refine h_take 6 (.pointer (some ⟨S, 0, none⟩)) rfl 32 rfl (by kernel_rfl) (by kernel_rfl) (by kernel_rfl) (by kernel_rfl) (fun _ _ _ h => h) (fun w' _ => by kernel_rfl) hRz ?_
      simp only [Act.put, List.setIfInBounds_toArray, List.set_cons_zero, List.set_cons_succ]
      refine h_take 7 (.pointer (some ⟨S, 1, none⟩)) rfl 33 rfl (by kernel_rfl) (by kernel_rfl) (by kernel_rfl) (by kernel_rfl) (fun _ _ _ h => h) (fun w' _ => by kernel_rfl) hRz ?_
      simp only [Act.put, List.setIfInBounds_toArray, List.set_cons_zero, List.set_cons_succ]
      refine h_take 8 (.int .i64 (at_ : Int)) rfl 34 rfl (by kernel_rfl) (by kernel_rfl) (by kernel_rfl) (by kernel_rfl) (fun _ _ _ h => h) (fun w' hC => run_op_load1 _ _ rfl (.int .i64) (by kernel_rfl) rfl _ rfl _ (hC.cell rfl)) hRz ?_
      simp only [Act.put, List.setIfInBounds_toArray, List.set_cons_zero, List.set_cons_succ]
      refine h_take 9 (.pointer (some ⟨S, 0, none⟩)) rfl 35 rfl (by kernel_rfl) (by kernel_rfl) (by kernel_rfl) (by kernel_rfl) (fun _ _ _ h => h) (fun w' _ => by kernel_rfl) hRz ?_
      simp only [Act.put, List.setIfInBounds_toArray, List.set_cons_zero, List.set_cons_succ]
      refine h_take 10 (.pointer (some ⟨S, 0, none⟩)) rfl 36 rfl (by kernel_rfl) (by kernel_rfl) (by kernel_rfl) (by kernel_rfl) (fun _ _ _ h => h) (fun w' _ => by kernel_rfl) hRz ?_
      simp only [Act.put, List.setIfInBounds_toArray, List.set_cons_zero, List.set_cons_succ]
      refine h_take 11 (.pointer (some ⟨S, 1, none⟩)) rfl 37 rfl (by kernel_rfl) (by kernel_rfl) (by kernel_rfl) (by kernel_rfl) (fun _ _ _ h => h) (fun w' _ => by kernel_rfl) hRz ?_
      simp only [Act.put, List.setIfInBounds_toArray, List.set_cons_zero, List.set_cons_succ]
      refine h_take 12 (.int .i64 (at_ : Int)) rfl 38 rfl (by kernel_rfl) (by kernel_rfl) (by kernel_rfl) (by kernel_rfl) (fun _ _ _ h => h) (fun w' hC => run_op_load1 _ _ rfl (.int .i64) (by kernel_rfl) rfl _ rfl _ (hC.cell rfl)) hRz ?_
      simp only [Act.put, List.setIfInBounds_toArray, List.set_cons_zero, List.set_cons_succ]
      refine h_take 13 (.int .i64 (k : Int)) rfl 39 rfl (by kernel_rfl) (by kernel_rfl) (by kernel_rfl) (by kernel_rfl) (fun _ _ _ h => h) (fun w' _ => by kernel_rfl) hRz ?_
      simp only [Act.put, List.setIfInBounds_toArray, List.set_cons_zero, List.set_cons_succ]
      refine h_take 14 (.int .i64 ((at_ : Int) + (k : Int))) rfl 40 rfl (by kernel_rfl) (by kernel_rfl) (by kernel_rfl) (by kernel_rfl) (fun _ _ _ h => h) (fun w' _ => run_op_add _ _ _ _ rfl (at_ : Int) (k : Int) rfl rfl (wrap_small (by omega) (by omega)) w') hRz ?_
      simp only [Act.put, List.setIfInBounds_toArray, List.set_cons_zero, List.set_cons_succ]
      refine h_take 15 (.slice (onP p at_ cap) (at_ + k - at_) (cap - at_)) rfl 41 rfl (by kernel_rfl) (by kernel_rfl) (by kernel_rfl) (by kernel_rfl) (fun _ _ _ h => h) (fun w' _ => run_op_mid _ _ _ _ rfl 5 (by kernel_rfl) (by kernel_rfl) p B.length cap rfl .i64 .i64 (at_ : Int) ((at_ : Int) + (k : Int)) rfl rfl at_ (at_ + k) rfl (by omega) (by omega) (by omega) w') hRz ?_
      simp only [Act.put, List.setIfInBounds_toArray, List.set_cons_zero, List.set_cons_succ]
      refine h_one (i := 0) (by kernel_rfl) (o_value _ rfl 26 rfl (by kernel_rfl) (run_op_bs0 rfl wz) ?_)
      have hN1 := new_alloc wz (.cells #[] 5)
      have hR1 : Row (wz.alloc (.cells #[] 5)) wz.heap.size 5 [] := heap_alloc_new _ _
      generalize hb1 : wz.heap.size = b1 at hR1
      generalize wz.alloc (.cells #[] 5) = y1 at hN1 hR1 ⊢
      have hS1 := hRz.old hN1.below
      refine ⟨hS1, ?_⟩
      have hO1 : Own y1 b1 (some ⟨b1, 0, none⟩) 0 [] := own_new hR1 (Nat.le_refl _)
      have hrd1 : Rd y1 (onP p at_ cap) ((B.drop at_).take k) := Rd_take (Rd_drop (hRdz.below hN1.below) at_ hle) k
      have hlk : ((B.drop at_).take k).length = k := by rw [List.length_take, List.length_drop]; omega
      simp only [Act.put, List.setIfInBounds_toArray, List.set_cons_zero, List.set_cons_succ]
      have HB1 := Lib.hid hb1; clear hb1
      refine h_one (i := 16) (by kernel_rfl) (o_append rfl 42 rfl (by kernel_rfl) _ _ rfl b1 (some ⟨b1, 0, none⟩) 0 0 [] rfl rfl hO1 (onP p at_ cap) (at_ + k - at_) (cap - at_) ((B.drop at_).take k) rfl (by rw [hlk]; omega) (fun e => by have h1 := H.out.nil_ (onP_eq_none e); omega) hrd1.at_ (by rw [hlk, List.length_nil]; omega) (by have := HB1.out; have := hN1.below.size; omega) ?_)
      intro p2 cap2 y2 hO2 hS2
      have hR2 : Row y2 S 45 (fcells p B.length cap at_ 0) := hS1.of_block (hS2.block S hS1.lt (by simp) (fun e => by have h1 : b1 = S := Option.some.inj e; have := HB1.out; have := hRz.lt; omega))
      refine ⟨hR2, ?_⟩
      simp only [Act.put, List.setIfInBounds_toArray, List.set_cons_zero, List.set_cons_succ]
      have bz2 : Below wz.heap.size wz y2 := hN1.below.trans (hS2.below (fun j hj => by cases hj) (fun j hj => by have h1 : b1 = j := Option.some.inj hj; have := HB1.out; omega) hN1.below.size)
      have bw2 : Below w.heap.size w y2 := below_step bz bz.size bz2
      rw [List.nil_append] at hO2
      have hsl : 0 + (at_ + k - at_) = k := by omega
      rw [hsl]
      refine h_take 17 (.slice p2 k cap2) rfl 5 rfl (by kernel_rfl) (by kernel_rfl) (by kernel_rfl) (by kernel_rfl) (fun _ _ _ h => h) (fun w' _ => by kernel_rfl) hR2 ?_
      simp only [Act.put, List.setIfInBounds_toArray, List.set_cons_zero, List.set_cons_succ]
      refine wpAnyH_done (by kernel_rfl) ?_ _
      have hc1 : y2.cell? ⟨S, 1, none⟩ = some (.int .i64 (at_ : Int)) := hR2.cell rfl
      have HB1' : w.heap.size ≤ b1 := by have := HB1.out; have := bz.size; omega
      clear hRz hRdz bz hN1 hR1 hS1 hO1 hrd1 hS2 bz2 HB1
      go_wp2_with (first
        | ((with_reducible refine arm_storeV (o := ⟨none, .store 3 _ _, _, _, _, _⟩) rfl _ _ _ rfl S 1 rfl _ rfl rfl (by kernel_rfl) _ _ hR2 (by unfold fcells; rw [List.length_cons, List.length_cons, List.length_singleton]; omega) ?_); intro y3 hR3 hO3 hZ3))
      go_ret
      have hO : Only S w y3 := (Only.of_below S bw2).trans hO3
      have hO2' := own_step hO2 (Step.of_only S none hO3) (fun j hj => by simp [blk] at hj) (fun j hj => by rw [← Option.some.inj hj]; exact row_not_own hR2 (by decide) hO2)
      refine ⟨⟨p2, cap2, by rw [HT.out, hlk]; rfl, by rw [HT.out]; exact hO2'.rd, fun e => by rw [HT.out]; exact own_none hO2' e, fun j hj => Nat.le_trans HB1' (own_low hO2' j hj)⟩, ⟨p, cap, B, at_ + k, 0, ⟨?_, Rd_only H.out.rd H.out.row (fcells_no _ _ _ _ _) hO, hle, H.out.nil_, H.out.lt, by omega, H.out.low, Nat.le_trans H.out.dle hO.size⟩, by rw [HT.out, absR_ok], hBl⟩, hO⟩
      have e3 : fcells p B.length cap (at_ + k) 0 = (fcells p B.length cap at_ 0).set 1 (.int .i64 ((at_ : Int) + (k : Int))) := by unfold fcells; simp
      rw [e3]
      exact hR3
    · have hd : decide ((B.length : Int) - (at_ : Int) < (k : Int)) = true := decide_eq_true (by omega)
      have HT : Hid (takeR k (B.drop at_, 0) = ([], ([], 3))) := Lib.hid (takeR_short _ k (by rw [List.length_drop]; omega))
      go_enter Try.func35, Try.ntmps35
      go_wp2_with fail
      go_quiet (fail)
      go_wp2_with (first
        | ((with_reducible refine arm_storeV (o := ⟨none, .store 43 _ _, _, _, _, _⟩) rfl _ _ _ rfl S 2 rfl _ rfl rfl (by kernel_rfl) _ _ H.out.row.drewN (by unfold fcells; rw [List.length_cons, List.length_cons, List.length_singleton]; omega) ?_); intro w1 hR1 hO1 hZ1))
      go_ret
      have hO : Only S w w1 := (Only.drewN S w _).trans hO1
      exact ⟨⟨none, 0, by rw [HT.out]; rfl, by rw [HT.out]; exact ⟨fun h => absurd rfl h⟩, fun _ => by rw [HT.out]; exact ⟨rfl, rfl⟩, fun j hj => by cases hj⟩, ⟨p, cap, B, at_, 3, ⟨hR1, Rd_only H.out.rd H.out.row (fcells_no _ _ _ _ _) hO, hle, H.out.nil_, H.out.lt, hal, H.out.low, Nat.le_trans H.out.dle hO.size⟩, by rw [HT.out]; rfl, hBl⟩, hO⟩
  · have hz : ((e : Int) != 0) = true := by simp; omega
    clear h
    rw [absR_bad B at_ e he] at habs
    subst habs
    have HT := Lib.hid (takeR_bad k e he)
    have HE := Lib.hid he; clear he
    go_enter Try.func35, Try.ntmps35
    go_wp2_with fail
    go_ret
    exact ⟨⟨none, 0, by rw [HT.out]; rfl, by rw [HT.out]; exact ⟨fun h => absurd rfl h⟩, fun _ => by rw [HT.out]; exact ⟨rfl, rfl⟩, fun j hj => by cases hj⟩, ⟨p, cap, B, at_, e, H.out, by rw [HT.out, absR_bad B at_ e HE.out], hBl⟩, Only.refl _ _⟩
end Go.Proofs.Yticdapgfjkhoaaa.Wi
