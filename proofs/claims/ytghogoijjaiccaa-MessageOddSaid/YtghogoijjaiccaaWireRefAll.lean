import Derived.Test.YtghogoijjaiccaaWireAll
/-
  Small laws of wire's that the law's own texts and the document's reader share. Over this seat's translation.
-/
namespace Go.Proofs.Ytghogoijjaiccaa.Wi
open Go.ChangeShapes Go.WideShapes Go.ChangeAt Go.RowKit Go.Proofs.Ytghogoijjaiccaa.Mem Go.Proofs.Ytghogoijjaiccaa.Bt Go.Proofs.Ytghogoijjaiccaa.Tg Go.Proofs.Ytghogoijjaiccaa.Sha
set_option linter.unusedVariables false
set_option linter.unusedSimpArgs false

theorem put1 (n : Nat) : put n 1 = [n % 256] := rfl

theorem RdAt.keep_rd {w w' : World} {R d : Nat} {s : RS} {p : Option Addr} {bs : List Nat} (h : RdAt w R d s) (ho : Only R w w') (hr : Rd w p bs) : Rd w' p bs := by
  obtain ⟨q, cap, h⟩ := h.ex
  exact Rd_only hr h.row (rcells_no _ _ _) ho
theorem takeR_all (bs rest : List Nat) (e k : Nat) (h : bs.length = k) : takeR k (bs ++ rest, e) = (bs, (rest, e)) := by
  subst h
  unfold takeR
  rw [if_pos (by simp)]
  simp
theorem takeR_short (bs : List Nat) (k : Nat) (h : bs.length < k) : takeR k (bs, 0) = ([], ([], 3)) := by
  unfold takeR
  rw [if_neg (show ¬ k ≤ bs.length by omega)]
  rfl
theorem takeR_stay (k : Nat) : takeR k ([], 3) = ([], ([], 3)) := by
  unfold takeR
  split
  · simp
  · rfl
theorem numR_all (bs rest : List Nat) (e k : Nat) (h : bs.length = k) : numR k (bs ++ rest, e) = (numOf bs, (rest, e)) := by
  unfold numR; rw [takeR_all bs rest e k h]
theorem numOf_one (a : Nat) : numOf [a] = a := by simp [numOf]
section
variable {ops : Array Oper} {rest : List Oper} {o : Oper} {a : Act} {w : World} {Q : Exit → Act → World → Prop}
end
section
variable {w w' : World} {base A B C : Nat} {pa pa' : Option Addr} {ca ca' : Nat} {la la' : List Nat} {pb : Option Addr} {cb : Nat} {bs : List Nat} {pc pc' : Option Addr} {cc cc' : Nat} {cs cs' : List Nat} {q : Option Addr} {qc : Nat} {qs : List Nat}
theorem row_step {X : Nat} {t : TypeId} {xs : List Value} (hx : Row w X t xs) (ha : Wr w base A pa ca la) (hs : Step (some A) pa pa' w w') (hne : X ≠ A) (ht : t ≠ 5 := by decide) : Row w' X t xs :=
  hx.of_block (hs.block X hx.lt (fun e => hne (Option.some.inj e).symm) (row_not_own hx ht ha.own))
end
theorem same_at (xs ys : List Nat) (p q : Option Addr) (c d m n : Nat) (hm : m = xs.length) (hn : n = ys.length) (w : World) (hp : Rd w p xs) (hq : Rd w q ys) (hx : xs.length ≤ 1000000) (hy : ys.length ≤ 1000000) :
    Calls Try.prog 14 #[.slice p m c, .slice q n d] w fun e w' => e = .returned (.bool (decide (xs = ys))) ∧ Below w.heap.size w w' := by
  subst hm hn
  exact same_any xs ys p q c d w hp hq hx hy
/-- A stop for the walk. -/
def Pause (p : Prop) : Prop := p
theorem pause {p : Prop} (h : Pause p) : p := h
theorem sep_none' (p : Option Addr) : Sep none p := fun k e => by cases e
theorem txt_len (b : List Nat) : (txt b).length ≤ 256 := by
  unfold txt
  split
  · rw [List.length_cons]; omega
  · simp
end Go.Proofs.Ytghogoijjaiccaa.Wi

/-
  The contracts of the document's Put and Text of layer 4, over this seat's translation.
-/
namespace Go.Proofs.Ytghogoijjaiccaa.Wi
open Go.ChangeShapes Go.WideShapes Go.ChangeAt Go.RowKit Go.Proofs.Ytghogoijjaiccaa.Mem Go.Proofs.Ytghogoijjaiccaa.Bt Go.Proofs.Ytghogoijjaiccaa.Tg
set_option linter.unusedVariables false
set_option linter.unusedSimpArgs false

/-- What holds in Put's loop. -/
structure PuRel (w : World) (n s : Nat) (i v m : Value) (wr : World) : Prop where
  ex : ∃ k : Nat, k ≤ s ∧ i = .int .i64 k ∧ m = .int .u64 ((n / 256 ^ k : Nat) : Int) ∧ ∃ p cap, v = .slice p k cap ∧ Own wr w.heap.size p cap (put n k)
  bel : Below w.heap.size w wr
/-- What Put leaves. -/
structure PutPost (w : World) (n s : Nat) (e : Ending) (w' : World) : Prop where
  ex : ∃ p cap, e = .returned (.slice p s cap) ∧ Own w' w.heap.size p cap (put n s)
  bel : Below w.heap.size w w'
set_option maxHeartbeats 1000000 in
set_option maxRecDepth 100000 in
theorem put_any (n s : Nat) (w : World) (hn : n < 18446744073709551616) (hs : s ≤ 8) :
    Calls Try.prog 23 #[.int .u64 (n : Int), .int .i64 (s : Int)] w (PutPost w n s) := by
  go_enter Try.func23, Try.ntmps23
  go_wp2_with (first
    | ((with_reducible refine at_slot 7 ?_); (refine arm_buildSlice (o := ⟨some 7, _, _, _, _, _⟩) rfl 0 _ rfl [] #[] (by simp) bs0 ?_); intro b1 w1 hb1 hR1 hN1))
  have h0 : PuRel w n s (.int .i64 0) (.slice (some ⟨b1, 0, none⟩) 0 0) (.int .u64 (n : Int)) w1 := ⟨⟨0, by omega, rfl, by simp, _, _, rfl, own_new hR1 (by have := hb1.out; omega)⟩, hN1.below⟩
  clear hb1 hR1 hN1
  go_loopw [6, 5, 0] (fun i v m wr => PuRel w n s i v m wr) (fun i _ _ _ => s - (intOf i).toNat)
  case atStart => exact h0
  case round =>
    clear h0 w1
    obtain ⟨⟨k, hk, rfl, rfl, p, cap, rfl, hO⟩, hbel⟩ := hrel
    by_cases hlt : k < s
    · have ik : (k : Int) < (s : Int) := by omega
      have HO := Lib.hid hO; clear hO
      have HC := Lib.hid (put_cons k n)
      have HPL := Lib.hid (put_length k n)
      have HD : Hid (n / 256 ^ (k + 1) = n / 256 ^ k / 256) := Lib.hid (by rw [Nat.pow_succ, Nat.div_div_eq_div_mul])
      have hmn : n / 256 ^ k < 18446744073709551616 := Nat.lt_of_le_of_lt (Nat.div_le_self _ _) hn
      generalize n / 256 ^ k = m at HC HD hmn
      have HV : Hid ((m : Int) % 256 = ((m % 256 : Nat) : Int)) := Lib.hid (by omega)
      have hws := hbel.size
      go_wp2_with (first
        | ((with_reducible refine at_slot 16 ?_); (refine arm_buildSlice (o := ⟨some 16, _, _, _, _, _⟩) rfl 1 _ rfl [.int .u8 ((m % 256 : Nat) : Int)] #[(0, .int .u8 ((m % 256 : Nat) : Int))] (by simp [Act.eval]) (bs1 _) ?_); intro b2 w2 hb2 hR2 hN2)
        | ((with_reducible refine at_slot 18 ?_); (refine arm_append2 (o := ⟨some 18, _, _, _, _, _⟩) rfl _ _ rfl wr.heap.size (some ⟨b2, 0, none⟩) 1 1 [m % 256] rfl rfl (own_row (bs := [m % 256]) hR2 (by have := hb2.out; omega) (by simp)) p k cap (put n k) rfl HPL.out.symm (fun e => by have := own_none HO.out e; rw [HPL.out] at this; exact this) (HO.out.below hN2.below).bytes (by rw [HPL.out, List.length_singleton]; omega) (by have := hN2.below.size; omega) ?_); intro p3 cap3 w3 hO3 hS3))
      have s2 := hN2.below.size
      have bel3 : Below wr.heap.size wr w3 := hN2.below.trans (hS3.below (fun j hj => by cases hj) (fun j hj => by have h1 : b2 = j := Option.some.inj hj; have := hb2.out; omega) s2)
      go_roundw
      case rel => exact ⟨⟨k + 1, by omega, by go_num, by rw [HD.out]; congr 1, p3, cap3, by congr 1; omega, by rw [HC.out]; exact own_mono hO3 hws⟩, below_step hbel hws bel3⟩
      case measure => simp [intOf]; omega
    · obtain rfl : k = s := by omega
      go_wp2_with fail
      go_ret
      exact ⟨⟨p, cap, rfl, hO⟩, hbel⟩
/-- What the document's Text leaves. -/
structure TxtPost (w : World) (ys : List Nat) (e : Ending) (w' : World) : Prop where
  ex : ∃ p cap, e = .returned (.tuple #[.slice p (txt ys).length cap, .bool (decide (ys.length ≤ 255))]) ∧ Own w' w.heap.size p cap (txt ys)
  bel : Below w.heap.size w w'
set_option maxRecDepth 100000 in
theorem txt_any (ys : List Nat) (y : Option Addr) (yc : Nat) (w : World) (hy : Rd w y ys) (hyn : y = none → ys.length = 0 ∧ yc = 0) (hm : ys.length ≤ maxLen) :
    Calls Try.prog 26 #[.slice y ys.length yc] w (TxtPost w ys) := by
  have HY := Lib.hid hy; have HYN := Lib.hid hyn
  clear hy hyn
  unfold maxLen at hm
  by_cases hs : ys.length ≤ 255
  · have hd : decide ((255 : Int) < (ys.length : Int)) = false := decide_eq_false (by omega)
    have HM : Hid ((ys.length : Int) % 256 = ((ys.length : Nat) : Int)) := Lib.hid (by omega)
    go_enter Try.func26, Try.ntmps26
    go_wp2_with (first
      | ((with_reducible refine at_slot 10 ?_); (refine arm_buildSlice (o := ⟨some 10, _, _, _, _, _⟩) rfl 1 _ rfl [.int .u8 ((ys.length : Nat) : Int)] #[(0, .int .u8 ((ys.length : Nat) : Int))] (by simp [Act.eval] <;> omega) (bs1 _) ?_); intro b2 w2 hb2 hR2 hN2)
      | ((with_reducible refine at_slot 12 ?_); (refine arm_append2 (o := ⟨some 12, _, _, _, _, _⟩) rfl _ _ rfl w.heap.size (some ⟨b2, 0, none⟩) 1 1 [ys.length] rfl rfl (own_row (bs := [ys.length]) hR2 (by have := hb2.out; omega) (by simp)) y ys.length yc ys rfl rfl HYN.out (HY.out.below hN2.below).at_ (by rw [List.length_singleton]; omega) (by have := hN2.below.size; omega) ?_); intro p3 cap3 w3 hO3 hS3))
    go_ret2
    have ht : txt ys = [ys.length] ++ ys := if_pos hs
    refine ⟨⟨p3, cap3, ?_, by rw [ht]; exact hO3⟩, hN2.below.trans (hS3.below (fun j hj => by cases hj) (fun j hj => by have h1 : b2 = j := Option.some.inj hj; have := hb2.out; omega) hN2.below.size)⟩
    rw [ht, decide_eq_true hs, List.length_append, List.length_singleton]
    rfl
  · have hd : decide ((255 : Int) < (ys.length : Int)) = true := decide_eq_true (by omega)
    go_enter Try.func26, Try.ntmps26
    go_wp2_with fail
    go_ret2
    have ht : txt ys = [] := if_neg hs
    refine ⟨⟨none, 0, ?_, by rw [ht]; exact own_nil _ _⟩, Below.refl _ _⟩
    rw [ht, decide_eq_false hs]
    rfl
end Go.Proofs.Ytghogoijjaiccaa.Wi

/-
  The document's reader of layer 4: its memory, and the contract of Take, over this seat's translation.
-/
namespace Go.Proofs.Ytghogoijjaiccaa.Wi
open Go.ChangeShapes Go.WideShapes Go.ChangeAt Go.RowKit Go.Proofs.Ytghogoijjaiccaa.Mem Go.Proofs.Ytghogoijjaiccaa.Bt Go.Proofs.Ytghogoijjaiccaa.Tg
set_option linter.unusedVariables false
set_option linter.unusedSimpArgs false

/-- The state of a reader that is at this place of some bytes. -/
def absR (B : List Nat) (at_ e : Nat) : RS := if e = 0 then (B.drop at_, 0) else ([], e)
def fcells (p : Option Addr) (n cap at_ e : Nat) : List Value := [.slice p n cap, .int .i64 (at_ : Int), .int .i64 (e : Int)]
theorem fcells_no (p : Option Addr) (n cap at_ e : Nat) : ∀ (i : Nat) (m : Int), (fcells p n cap at_ e)[i]? ≠ some (.int .u8 m) := by
  intro i m
  match i with
  | 0 => simp [fcells]
  | 1 => simp [fcells]
  | 2 => simp [fcells]
  | i + 3 => simp [fcells]
/-- The document's reader, in this state. -/
structure Rf (w : World) (S D : Nat) (p : Option Addr) (cap : Nat) (B : List Nat) (at_ e : Nat) : Prop where
  row : Row w S 91 (fcells p B.length cap at_ e)
  rd : Rd w p B
  le : B.length ≤ cap
  nil_ : p = none → cap = 0
  lt : AllLt 256 B
  at_le : at_ ≤ B.length
  low : B ≠ [] → ∀ k, blk p = some k → k < D
  dle : D ≤ w.heap.size
structure RfAt (w : World) (S D : Nat) (s : RS) : Prop where
  ex : ∃ p cap B at_ e, Rf w S D p cap B at_ e ∧ absR B at_ e = s ∧ B.length ≤ 100000
theorem RfAt.row_lt {w : World} {S D : Nat} {s : RS} (h : RfAt w S D s) : S < w.heap.size := by obtain ⟨p, cap, B, a, e, h, _⟩ := h.ex; exact h.row.lt
theorem RfAt.old {w w' : World} {S D : Nat} {s : RS} (h : RfAt w S D s) (hb : Below w.heap.size w w') : RfAt w' S D s := by
  obtain ⟨p, cap, B, a, e, h, ha, hl⟩ := h.ex
  exact ⟨p, cap, B, a, e, ⟨h.row.old hb, h.rd.below hb, h.le, h.nil_, h.lt, h.at_le, h.low, Nat.le_trans h.dle hb.size⟩, ha, hl⟩
/-- Another struct has changed. -/
theorem RfAt.only {w w' : World} {S R D : Nat} {s : RS} {t : TypeId} {cs : List Value} (h : RfAt w S D s) (hr : Row w R t cs) (hno : ∀ (i : Nat) (n : Int), cs[i]? ≠ some (.int .u8 n)) (ho : Only R w w') (hne : S ≠ R) : RfAt w' S D s := by
  obtain ⟨p, cap, B, a, e, h, ha, hl⟩ := h.ex
  exact ⟨p, cap, B, a, e, ⟨h.row.only ho hne, Rd_only h.rd hr hno ho, h.le, h.nil_, h.lt, h.at_le, h.low, Nat.le_trans h.dle ho.size⟩, ha, hl⟩
/-- A block that is neither the struct's nor as old as the bytes has changed. -/
theorem RfAt.other {w w' : World} {S D X : Nat} {s : RS} (h : RfAt w S D s) (ho : Only X w w') (hne : S ≠ X) (hX : D ≤ X) : RfAt w' S D s := by
  obtain ⟨p, cap, B, a, e, h, ha, hl⟩ := h.ex
  refine ⟨p, cap, B, a, e, ⟨h.row.only ho hne, ⟨fun hb => ?_⟩, h.le, h.nil_, h.lt, h.at_le, h.low, Nat.le_trans h.dle ho.size⟩, ha, hl⟩
  obtain ⟨g, o, e, hr⟩ := h.rd.at_ hb
  have hg := h.low hb g (by rw [e]; rfl)
  have hne8 : u8s B ≠ [] := by intro h; apply hb; simpa [u8s] using h
  exact ⟨g, o, e, range_block hr (ho.block g (range_lt hr hne8) (by omega))⟩
theorem RfAt.dle {w : World} {S D : Nat} {s : RS} (h : RfAt w S D s) : D ≤ w.heap.size := by obtain ⟨p, cap, B, a, e, h, _⟩ := h.ex; exact h.dle
theorem absR_lt {B : List Nat} (h : AllLt 256 B) (a e : Nat) : AllLt 256 (absR B a e).1 := by
  unfold absR; split
  · exact fun x hx => h x (List.mem_of_mem_drop hx)
  · intro x hx; cases hx
theorem RfAt.lt {w : World} {S D : Nat} {s : RS} (h : RfAt w S D s) : AllLt 256 s.1 := by
  obtain ⟨p, cap, B, a, e, h, ha, _⟩ := h.ex
  rw [← ha]; exact absR_lt h.lt a e
/-- What the document's Take leaves. -/
structure RfTake (w : World) (S D k : Nat) (s : RS) (e : Ending) (w' : World) : Prop where
  ex : ∃ q c, e = .returned (.slice q (takeR k s).1.length c) ∧ Rd w' q (takeR k s).1 ∧ (q = none → (takeR k s).1.length = 0 ∧ c = 0) ∧ ∀ j, blk q = some j → w.heap.size ≤ j
  at_ : RfAt w' S D (takeR k s).2
  only : Only S w w'
theorem absR_bad (B : List Nat) (a e : Nat) (h : e ≠ 0) : absR B a e = ([], e) := by unfold absR; rw [if_neg h]
theorem absR_ok (B : List Nat) (a : Nat) : absR B a 0 = (B.drop a, 0) := by unfold absR; rw [if_pos rfl]
theorem takeR_bad (k e : Nat) (h : e ≠ 0) : takeR k ([], e) = ([], ([], e)) := by
  unfold takeR failed
  split
  · simp
  · simp [h]
theorem onP_eq_none {p : Option Addr} {m cap : Nat} (h : onP p m cap = none) : p = none := by
  cases p with
  | none => rfl
  | some ad => unfold onP at h; split at h <;> simp at h
theorem wrap_small {m n : Int} (h0 : -4611686018427387904 ≤ m + n) (h1 : m + n ≤ 4611686018427387904) : IntKind.i64.wrap (m + n) = m + n := by
  simp [IntKind.wrap, IntKind.signed, IntKind.bits]; omega
theorem run_op_bs0 {o : Oper} {a : Act} (ho : o.op = .buildSlice 43 0 #[]) (w : World) : (execOp a.eval o).run Try.prog w = .ok (.value (.slice (some ⟨w.heap.size, 0, none⟩) 0 0)) (w.alloc (.cells #[] 5)) := by
  unfold execOp
  simp only [ho, List.map_toArray, List.map_nil, Sem.run_bind, bs0 w, Result.andThen_ok, Sem.run_pure]

set_option maxHeartbeats 1000000 in
set_option maxRecDepth 100000 in
theorem fTake_any (k S D : Nat) (s : RS) (w : World) (h : RfAt w S D s) (hk : k ≤ 1000000) :
    Calls Try.prog 52 #[.pointer (some ⟨S, 0, none⟩), .int .i64 (k : Int)] w (RfTake w S D k s) := by
  obtain ⟨p, cap, B, at_, e, h, habs, hBl⟩ := h.ex
  have H := Lib.hid h
  have hc2 : w.cell? ⟨S, 2, none⟩ = some (.int .i64 (e : Int)) := h.row.cell rfl
  have hle := h.le
  have hal := h.at_le
  by_cases he : e = 0
  · subst he
    have hc0 : w.cell? ⟨S, 0, none⟩ = some (.slice p B.length cap) := h.row.cell rfl
    have hc1 : w.cell? ⟨S, 1, none⟩ = some (.int .i64 (at_ : Int)) := h.row.cell rfl
    clear h
    rw [absR_ok] at habs
    subst habs
    by_cases hs : k ≤ B.length - at_
    · have hd : decide ((B.length : Int) - (at_ : Int) < (k : Int)) = false := decide_eq_false (by omega)
      have HT : Hid (takeR k (B.drop at_, 0) = ((B.drop at_).take k, (B.drop (at_ + k), 0))) := Lib.hid (by unfold takeR; rw [if_pos (by simpa using hs)]; simp [List.drop_drop])
      go_enter Try.func52, Try.ntmps52
      go_wp2_with fail
      go_quiet (fail)
      go_wp2_with fail
      have hRz : Row (w.drewN nq).drew S 91 (fcells p B.length cap at_ 0) := H.out.row
      have hRdz : Rd (w.drewN nq).drew p B := H.out.rd.below ((below_drewN _ _ _).trans ((Below.refl _ _).drew))
      have bz : Below w.heap.size w (w.drewN nq).drew := (below_drewN _ _ _).trans ((Below.refl _ _).drew)
      clear hc0 hc1 hc2
      refine wp_region_held (S := fun w' => Row w' S 91 (fcells p B.length cap at_ 0)) (by kernel_rfl) ?_
      change wpAnyH _ _ _ _ _ _ _ _ (w.drewN nq).drew
      generalize (w.drewN nq).drew = wz at hRz hRdz bz ⊢
      refine h_take 1 (.pointer (some ⟨S, 0, none⟩)) rfl 27 rfl (by kernel_rfl) (by kernel_rfl) (by kernel_rfl) (by kernel_rfl) (fun _ _ _ h => h) (fun w' _ => by kernel_rfl) hRz ?_
      simp only [Act.put, List.setIfInBounds_toArray, List.set_cons_zero, List.set_cons_succ]
      refine h_take 2 (.pointer (some ⟨S, 0, none⟩)) rfl 28 rfl (by kernel_rfl) (by kernel_rfl) (by kernel_rfl) (by kernel_rfl) (fun _ _ _ h => h) (fun w' _ => by kernel_rfl) hRz ?_
      simp only [Act.put, List.setIfInBounds_toArray, List.set_cons_zero, List.set_cons_succ]
      refine h_take 3 (.pointer (some ⟨S, 0, none⟩)) rfl 29 rfl (by kernel_rfl) (by kernel_rfl) (by kernel_rfl) (by kernel_rfl) (fun _ _ _ h => h) (fun w' _ => by kernel_rfl) hRz ?_
      simp only [Act.put, List.setIfInBounds_toArray, List.set_cons_zero, List.set_cons_succ]
      refine h_take 4 (.slice p B.length cap) rfl 30 rfl (by kernel_rfl) (by kernel_rfl) (by kernel_rfl) (by kernel_rfl) (fun _ _ _ h => h) (fun w' hC => run_op_load1 _ _ rfl (.slice 5) (by kernel_rfl) rfl _ rfl _ (hC.cell rfl)) hRz ?_
      simp only [Act.put, List.setIfInBounds_toArray, List.set_cons_zero, List.set_cons_succ]
      refine h_take 5 (.pointer (some ⟨S, 0, none⟩)) rfl 31 rfl (by kernel_rfl) (by kernel_rfl) (by kernel_rfl) (by kernel_rfl) (fun _ _ _ h => h) (fun w' _ => by kernel_rfl) hRz ?_
      simp only [Act.put, List.setIfInBounds_toArray, List.set_cons_zero, List.set_cons_succ]
      refine h_take 6 (.pointer (some ⟨S, 0, none⟩)) rfl 32 rfl (by kernel_rfl) (by kernel_rfl) (by kernel_rfl) (by kernel_rfl) (fun _ _ _ h => h) (fun w' _ => by kernel_rfl) hRz ?_
      simp only [Act.put, List.setIfInBounds_toArray, List.set_cons_zero, List.set_cons_succ]
      refine h_take 7 (.pointer (some ⟨S, 1, none⟩)) rfl 33 rfl (by kernel_rfl) (by kernel_rfl) (by kernel_rfl) (by kernel_rfl) (fun _ _ _ h => h) (fun w' _ => by kernel_rfl) hRz ?_
      simp only [Act.put, List.setIfInBounds_toArray, List.set_cons_zero, List.set_cons_succ]
      refine h_take 8 (.int .i64 (at_ : Int)) rfl 34 rfl (by kernel_rfl) (by kernel_rfl) (by kernel_rfl) (by kernel_rfl) (fun _ _ _ h => h) (fun w' hC => run_op_load1 _ _ rfl (.int .i64) (by kernel_rfl) rfl _ rfl _ (hC.cell rfl)) hRz ?_
      simp only [Act.put, List.setIfInBounds_toArray, List.set_cons_zero, List.set_cons_succ]
      refine h_take 9 (.pointer (some ⟨S, 0, none⟩)) rfl 35 rfl (by kernel_rfl) (by kernel_rfl) (by kernel_rfl) (by kernel_rfl) (fun _ _ _ h => h) (fun w' _ => by kernel_rfl) hRz ?_
      simp only [Act.put, List.setIfInBounds_toArray, List.set_cons_zero, List.set_cons_succ]
      refine h_take 10 (.pointer (some ⟨S, 0, none⟩)) rfl 36 rfl (by kernel_rfl) (by kernel_rfl) (by kernel_rfl) (by kernel_rfl) (fun _ _ _ h => h) (fun w' _ => by kernel_rfl) hRz ?_
      simp only [Act.put, List.setIfInBounds_toArray, List.set_cons_zero, List.set_cons_succ]
      refine h_take 11 (.pointer (some ⟨S, 1, none⟩)) rfl 37 rfl (by kernel_rfl) (by kernel_rfl) (by kernel_rfl) (by kernel_rfl) (fun _ _ _ h => h) (fun w' _ => by kernel_rfl) hRz ?_
      simp only [Act.put, List.setIfInBounds_toArray, List.set_cons_zero, List.set_cons_succ]
      refine h_take 12 (.int .i64 (at_ : Int)) rfl 38 rfl (by kernel_rfl) (by kernel_rfl) (by kernel_rfl) (by kernel_rfl) (fun _ _ _ h => h) (fun w' hC => run_op_load1 _ _ rfl (.int .i64) (by kernel_rfl) rfl _ rfl _ (hC.cell rfl)) hRz ?_
      simp only [Act.put, List.setIfInBounds_toArray, List.set_cons_zero, List.set_cons_succ]
      refine h_take 13 (.int .i64 (k : Int)) rfl 39 rfl (by kernel_rfl) (by kernel_rfl) (by kernel_rfl) (by kernel_rfl) (fun _ _ _ h => h) (fun w' _ => by kernel_rfl) hRz ?_
      simp only [Act.put, List.setIfInBounds_toArray, List.set_cons_zero, List.set_cons_succ]
      refine h_take 14 (.int .i64 ((at_ : Int) + (k : Int))) rfl 40 rfl (by kernel_rfl) (by kernel_rfl) (by kernel_rfl) (by kernel_rfl) (fun _ _ _ h => h) (fun w' _ => run_op_add _ _ _ _ rfl (at_ : Int) (k : Int) rfl rfl (wrap_small (by omega) (by omega)) w') hRz ?_
      simp only [Act.put, List.setIfInBounds_toArray, List.set_cons_zero, List.set_cons_succ]
      refine h_take 15 (.slice (onP p at_ cap) (at_ + k - at_) (cap - at_)) rfl 41 rfl (by kernel_rfl) (by kernel_rfl) (by kernel_rfl) (by kernel_rfl) (fun _ _ _ h => h) (fun w' _ => run_op_mid _ _ _ _ rfl 5 (by kernel_rfl) (by kernel_rfl) p B.length cap rfl .i64 .i64 (at_ : Int) ((at_ : Int) + (k : Int)) rfl rfl at_ (at_ + k) rfl (by omega) (by omega) (by omega) w') hRz ?_
      simp only [Act.put, List.setIfInBounds_toArray, List.set_cons_zero, List.set_cons_succ]
      refine h_one (i := 0) (by kernel_rfl) (o_value _ rfl 26 rfl (by kernel_rfl) (run_op_bs0 rfl wz) ?_)
      have hN1 := new_alloc wz (.cells #[] 5)
      have hR1 : Row (wz.alloc (.cells #[] 5)) wz.heap.size 5 [] := heap_alloc_new _ _
      generalize hb1 : wz.heap.size = b1 at hR1
      generalize wz.alloc (.cells #[] 5) = y1 at hN1 hR1 ⊢
      have hS1 := hRz.old hN1.below
      refine ⟨hS1, ?_⟩
      have hO1 : Own y1 b1 (some ⟨b1, 0, none⟩) 0 [] := own_new hR1 (Nat.le_refl _)
      have hrd1 : Rd y1 (onP p at_ cap) ((B.drop at_).take k) := Rd_take (Rd_drop (hRdz.below hN1.below) at_ hle) k
      have hlk : ((B.drop at_).take k).length = k := by rw [List.length_take, List.length_drop]; omega
      simp only [Act.put, List.setIfInBounds_toArray, List.set_cons_zero, List.set_cons_succ]
      have HB1 := Lib.hid hb1; clear hb1
      refine h_one (i := 16) (by kernel_rfl) (o_append rfl 42 rfl (by kernel_rfl) _ _ rfl b1 (some ⟨b1, 0, none⟩) 0 0 [] rfl rfl hO1 (onP p at_ cap) (at_ + k - at_) (cap - at_) ((B.drop at_).take k) rfl (by rw [hlk]; omega) (fun e => by have h1 := H.out.nil_ (onP_eq_none e); omega) hrd1.at_ (by rw [hlk, List.length_nil]; omega) (by have := HB1.out; have := hN1.below.size; omega) ?_)
      intro p2 cap2 y2 hO2 hS2
      have hR2 : Row y2 S 91 (fcells p B.length cap at_ 0) := hS1.of_block (hS2.block S hS1.lt (by simp) (fun e => by have h1 : b1 = S := Option.some.inj e; have := HB1.out; have := hRz.lt; omega))
      refine ⟨hR2, ?_⟩
      simp only [Act.put, List.setIfInBounds_toArray, List.set_cons_zero, List.set_cons_succ]
      have bz2 : Below wz.heap.size wz y2 := hN1.below.trans (hS2.below (fun j hj => by cases hj) (fun j hj => by have h1 : b1 = j := Option.some.inj hj; have := HB1.out; omega) hN1.below.size)
      have bw2 : Below w.heap.size w y2 := below_step bz bz.size bz2
      rw [List.nil_append] at hO2
      have hsl : 0 + (at_ + k - at_) = k := by omega
      rw [hsl]
      refine h_take 17 (.slice p2 k cap2) rfl 5 rfl (by kernel_rfl) (by kernel_rfl) (by kernel_rfl) (by kernel_rfl) (fun _ _ _ h => h) (fun w' _ => by kernel_rfl) hR2 ?_
      simp only [Act.put, List.setIfInBounds_toArray, List.set_cons_zero, List.set_cons_succ]
      refine wpAnyH_done (by kernel_rfl) ?_ _
      have hc1 : y2.cell? ⟨S, 1, none⟩ = some (.int .i64 (at_ : Int)) := hR2.cell rfl
      have HB1' : w.heap.size ≤ b1 := by have := HB1.out; have := bz.size; omega
      clear hRz hRdz bz hN1 hR1 hS1 hO1 hrd1 hS2 bz2 HB1
      go_wp2_with (first
        | ((with_reducible refine arm_storeV (o := ⟨none, .store 3 _ _, _, _, _, _⟩) rfl _ _ _ rfl S 1 rfl _ rfl rfl (by kernel_rfl) _ _ hR2 (by unfold fcells; rw [List.length_cons, List.length_cons, List.length_singleton]; omega) ?_); intro y3 hR3 hO3 hZ3))
      go_ret
      have hO : Only S w y3 := (Only.of_below S bw2).trans hO3
      have hO2' := own_step hO2 (Step.of_only S none hO3) (fun j hj => by simp [blk] at hj) (fun j hj => by rw [← Option.some.inj hj]; exact row_not_own hR2 (by decide) hO2)
      refine ⟨⟨p2, cap2, by rw [HT.out, hlk]; rfl, by rw [HT.out]; exact hO2'.rd, fun e => by rw [HT.out]; exact own_none hO2' e, fun j hj => Nat.le_trans HB1' (own_low hO2' j hj)⟩, ⟨p, cap, B, at_ + k, 0, ⟨?_, Rd_only H.out.rd H.out.row (fcells_no _ _ _ _ _) hO, hle, H.out.nil_, H.out.lt, by omega, H.out.low, Nat.le_trans H.out.dle hO.size⟩, by rw [HT.out, absR_ok], hBl⟩, hO⟩
      have e3 : fcells p B.length cap (at_ + k) 0 = (fcells p B.length cap at_ 0).set 1 (.int .i64 ((at_ : Int) + (k : Int))) := by unfold fcells; simp
      rw [e3]
      exact hR3
    · have hd : decide ((B.length : Int) - (at_ : Int) < (k : Int)) = true := decide_eq_true (by omega)
      have HT : Hid (takeR k (B.drop at_, 0) = ([], ([], 3))) := Lib.hid (takeR_short _ k (by rw [List.length_drop]; omega))
      go_enter Try.func52, Try.ntmps52
      go_wp2_with fail
      go_quiet (fail)
      go_wp2_with (first
        | ((with_reducible refine arm_storeV (o := ⟨none, .store 45 _ _, _, _, _, _⟩) rfl _ _ _ rfl S 2 rfl _ rfl rfl (by kernel_rfl) _ _ H.out.row.drewN (by unfold fcells; rw [List.length_cons, List.length_cons, List.length_singleton]; omega) ?_); intro w1 hR1 hO1 hZ1))
      go_ret
      have hO : Only S w w1 := (Only.drewN S w _).trans hO1
      exact ⟨⟨none, 0, by rw [HT.out]; rfl, by rw [HT.out]; exact ⟨fun h => absurd rfl h⟩, fun _ => by rw [HT.out]; exact ⟨rfl, rfl⟩, fun j hj => by cases hj⟩, ⟨p, cap, B, at_, 3, ⟨hR1, Rd_only H.out.rd H.out.row (fcells_no _ _ _ _ _) hO, hle, H.out.nil_, H.out.lt, hal, H.out.low, Nat.le_trans H.out.dle hO.size⟩, by rw [HT.out]; rfl, hBl⟩, hO⟩
  · have hz : ((e : Int) != 0) = true := by simp; omega
    clear h
    rw [absR_bad B at_ e he] at habs
    subst habs
    have HT := Lib.hid (takeR_bad k e he)
    have HE := Lib.hid he; clear he
    go_enter Try.func52, Try.ntmps52
    go_wp2_with fail
    go_ret
    exact ⟨⟨none, 0, by rw [HT.out]; rfl, by rw [HT.out]; exact ⟨fun h => absurd rfl h⟩, fun _ => by rw [HT.out]; exact ⟨rfl, rfl⟩, fun j hj => by cases hj⟩, ⟨p, cap, B, at_, e, H.out, by rw [HT.out, absR_bad B at_ e HE.out], hBl⟩, Only.refl _ _⟩
end Go.Proofs.Ytghogoijjaiccaa.Wi

/-
  The contracts of the document's reader of layer 4 (Number, Hash, Text, Left, End), over this seat's translation.
-/
namespace Go.Proofs.Ytghogoijjaiccaa.Wi
open Go.ChangeShapes Go.WideShapes Go.ChangeAt Go.RowKit Go.Proofs.Ytghogoijjaiccaa.Mem Go.Proofs.Ytghogoijjaiccaa.Bt Go.Proofs.Ytghogoijjaiccaa.Tg
set_option linter.unusedVariables false
set_option linter.unusedSimpArgs false

/-- What a call of the document's reader leaves. -/
structure RfPost (w : World) (S D : Nat) (v : Value) (s : RS) (e : Ending) (w' : World) : Prop where
  ret : e = .returned v
  at_ : RfAt w' S D s
  only : Only S w w'
set_option maxHeartbeats 1000000 in
set_option maxRecDepth 100000 in
theorem fNumber_any (k S D : Nat) (s : RS) (w : World) (h : RfAt w S D s) (hk : k ≤ 8) :
    Calls Try.prog 29 #[.pointer (some ⟨S, 0, none⟩), .int .i64 (k : Int)] w (RfPost w S D (.int .u64 ((numR k s).1 : Int)) (numR k s).2) := by
  have hlt := takeR_lt (k := k) h.lt
  have hlen := takeR_len k s
  have H := Lib.hid h; clear h
  go_enter Try.func29, Try.ntmps29
  go_wp2_with fail
  refine (fTake_any k S D s w H.out (by omega)).mono ?_
  rintro e w1 ⟨⟨q, c, rfl, hrd, _⟩, hA, hO⟩
  have HA : Hid (RfAt w1 S D (numR k s).2) := Lib.hid hA
  have HN : Hid ((numR k s).1 = numOf (takeR k s).1) := Lib.hid rfl
  have HLT := Lib.hid hlt
  clear hA H hlt
  generalize (takeR k s).1 = t at hrd HN HLT hlen ⊢
  have h0 : RnRel w1 t (.int .i64 0) (.int .u64 0) w1 := ⟨⟨0, by omega, rfl, by simp [numOf]⟩, rfl⟩
  have HRD := Lib.hid hrd; clear hrd
  go_wp2_with fail
  go_loopw [7, 6] (fun i v wr => RnRel w1 t i v wr) (fun i _ _ => t.length - (intOf i).toNat)
  case atStart => exact h0
  case round =>
    clear h0
    obtain ⟨⟨j, hj, rfl, rfl⟩, rfl⟩ := hrel
    by_cases hlt : j < t.length
    · obtain ⟨g, o, rfl, hc⟩ := HRD.out.cell hlt
      have ij : (j : Int) < (t.length : Int) := by omega
      have HS := Lib.hid (take_snoc t j hlt)
      have hx : numOf (t.take j) < 256 ^ 7 := Nat.lt_of_lt_of_le (numOf_lt _ (mem_lt_take HLT.out j)) (Nat.pow_le_pow_right (by omega) (by rw [List.length_take]; omega))
      have hy : t.getD j 0 < 256 := getD_lt HLT.out (by omega) j
      generalize t.getD j 0 = y at hc hy HS
      generalize hxx : numOf (t.take j) = x at hx ⊢
      have HX := Lib.hid hxx; clear hxx
      have hx2 : (x : Int) < 72057594037927936 := by omega
      go_wp2_with fail
      refine ⟨⟨⟨j + 1, by omega, by go_num, ?_⟩, rfl⟩, ?_⟩
      · rw [HS.out, numOf_snoc, HX.out]; congr 1; first | omega | (rw [IntKind.wrap_u64, IntKind.wrap_u64]; omega) | (rw [IntKind.wrap_u64]; omega)
      · simp [intOf]; omega
    · obtain rfl : j = t.length := by omega
      rw [List.take_of_length_le (Nat.le_refl _)]
      go_wp2_with fail
      go_ret
      exact ⟨by rw [HN.out]; rfl, HA.out, hO⟩
set_option maxRecDepth 100000 in
theorem fEnd_any (S D : Nat) (s : RS) (w : World) (h : RfAt w S D s) :
    Calls Try.prog 30 #[.pointer (some ⟨S, 0, none⟩)] w fun e w' => e = .returned (.int .i64 (endR s : Int)) ∧ Below w.heap.size w w' := by
  obtain ⟨p, cap, B, at_, e, h, habs, hBl⟩ := h.ex
  have hc2 : w.cell? ⟨S, 2, none⟩ = some (.int .i64 (e : Int)) := h.row.cell rfl
  have hc0 : w.cell? ⟨S, 0, none⟩ = some (.slice p B.length cap) := h.row.cell rfl
  have hc1 : w.cell? ⟨S, 1, none⟩ = some (.int .i64 (at_ : Int)) := h.row.cell rfl
  have hal := h.at_le
  clear h
  by_cases he : e = 0
  · subst he
    rw [absR_ok] at habs
    subst habs
    by_cases hb : at_ < B.length
    · have HE : Hid (endR (B.drop at_, 0) = 4) := Lib.hid (by
        unfold endR
        rw [if_neg (by simp), if_neg (by intro h; have := congrArg List.length h; simp at this; omega)])
      have ib : (at_ : Int) < (B.length : Int) := by omega
      have hd : decide ((at_ : Int) < (B.length : Int)) = true := decide_eq_true (by omega)
      rw [HE.out]
      go_enter Try.func30, Try.ntmps30
      go_wp2_with fail
      go_quiet (fail)
      go_wp2_with fail
      go_ret
      exact ⟨rfl, below_drewN _ _ _⟩
    · have HE : Hid (endR (B.drop at_, 0) = 0) := Lib.hid (by
        unfold endR
        rw [if_neg (by simp), if_pos (List.drop_eq_nil_of_le (by omega))])
      have hd : decide ((at_ : Int) < (B.length : Int)) = false := decide_eq_false (by omega)
      rw [HE.out]
      have hc2' : ∀ n, (w.drewN n).cell? ⟨S, 2, none⟩ = some (.int .i64 ((0 : Nat) : Int)) := fun n => hc2
      go_enter Try.func30, Try.ntmps30
      go_wp2_with fail
      go_quiet (fail)
      go_wp2_with fail
      go_ret
      exact ⟨rfl, below_drewN _ _ _⟩
  · have hz : ((e : Int) == 0) = false := by simp; omega
    have HE : Hid (endR (([], e) : RS) = e) := Lib.hid (by unfold endR; rw [if_pos (by simpa using he)])
    rw [absR_bad B at_ e he] at habs
    subst habs
    rw [HE.out]
    clear he
    have hc2' : ∀ n, (w.drewN n).cell? ⟨S, 2, none⟩ = some (.int .i64 (e : Int)) := fun n => hc2
    go_enter Try.func30, Try.ntmps30
    go_wp2_with fail
    go_quiet (fail)
    go_wp2_with fail
    go_ret
    exact ⟨rfl, below_drewN _ _ _⟩
end Go.Proofs.Ytghogoijjaiccaa.Wi

/-
  The contracts of the document's reader of layer 4 (Text, Hash), over this seat's translation.
-/
namespace Go.Proofs.Ytghogoijjaiccaa.Wi
open Go.ChangeShapes Go.WideShapes Go.ChangeAt Go.RowKit Go.Proofs.Ytghogoijjaiccaa.Mem Go.Proofs.Ytghogoijjaiccaa.Bt Go.Proofs.Ytghogoijjaiccaa.Tg
set_option linter.unusedVariables false
set_option linter.unusedSimpArgs false

theorem takeR_none (B : List Nat) (a e k : Nat) (h : (takeR k (absR B a e)).2.2 ≠ 0) : (takeR k (absR B a e)).1 = [] := by
  by_cases he : e = 0
  · subst he
    rw [absR_ok] at h ⊢
    unfold takeR at h ⊢
    split at h
    · simp at h
    · rename_i h2; rw [if_neg h2]
  · rw [absR_bad B a e he, takeR_bad k e he]
theorem RfAt.none {w : World} {S D k : Nat} {s : RS} (h : RfAt w S D s) (hn : (numR k s).2.2 ≠ 0) : (numR k s).1 = 0 := by
  obtain ⟨p, cap, B, a, e, h, ha, _⟩ := h.ex
  subst ha
  have := takeR_none B a e k hn
  unfold numR
  rw [this]
  rfl
/-- What the document's Text leaves. -/
structure RfText (w : World) (S D : Nat) (bs : List Nat) (s : RS) (e : Ending) (w' : World) : Prop where
  ex : ∃ q c, e = .returned (.slice q bs.length c) ∧ Rd w' q bs
  at_ : RfAt w' S D s
  only : Only S w w'
set_option maxHeartbeats 1000000 in
set_option maxRecDepth 100000 in
theorem fText_any (m : Int) (S D : Nat) (s : RS) (w : World) (h : RfAt w S D s) (hm0 : 0 ≤ m) :
    Calls Try.prog 55 #[.pointer (some ⟨S, 0, none⟩), .int .i64 m] w (RfText w S D (textR m s).1 (textR m s).2) := by
  have hlt := numR_lt (k := 1) h.lt
  have HNN := Lib.hid (fun hn => h.none (k := 1) hn)
  have H := Lib.hid h; clear h
  by_cases hb : (numR 1 s).2.2 = 0 ∧ m < ((numR 1 s).1 : Int)
  · have HT : Hid (textR m s = ([], ([], 4))) := Lib.hid (by unfold textR failed; rw [if_pos hb.2, if_pos hb.1])
    rw [HT.out]
    go_enter Try.func55, Try.ntmps55
    go_wp2_with fail
    refine (fNumber_any 1 S D s w H.out (by omega)).mono ?_
    rintro e w1 ⟨rfl, hA, hO⟩
    obtain ⟨p, cap, B, at_, e, hR, habs, hBl⟩ := hA.ex
    have he : e = 0 := by
      have h1 := hb.1
      rw [← habs] at h1
      by_cases h2 : e = 0
      · exact h2
      · rw [absR_bad B at_ e h2] at h1; exact h1
    subst he
    have hc2 : w1.cell? ⟨S, 2, none⟩ = some (.int .i64 0) := hR.row.cell rfl
    have hd : decide (m < ((numR 1 s).1 : Int)) = true := decide_eq_true hb.2
    have HR := Lib.hid hR
    generalize (numR 1 s).1 = n at hlt hd ⊢
    clear hb HT hA habs hR
    go_wp2_with (first
      | ((with_reducible refine arm_storeV (o := ⟨none, .store 45 _ _, _, _, _, _⟩) rfl _ _ _ rfl S 2 rfl _ rfl rfl (by kernel_rfl) _ _ HR.out.row (by unfold fcells; rw [List.length_cons, List.length_cons, List.length_singleton]; omega) ?_); intro w2 hR2 hO2 hZ2))
    have hA2 : RfAt w2 S D ([], 4) := ⟨p, cap, B, at_, 4, ⟨hR2, Rd_only HR.out.rd HR.out.row (fcells_no _ _ _ _ _) hO2, HR.out.le, HR.out.nil_, HR.out.lt, HR.out.at_le, HR.out.low, Nat.le_trans HR.out.dle hO2.size⟩, rfl, hBl⟩
    clear hR2 hZ2 hc2
    refine (fTake_any n S D ([], 4) w2 hA2 (by omega)).mono ?_
    rintro e w3 ⟨⟨q, c, rfl, hrd, _⟩, hA3, hO3⟩
    rw [takeR_bad n 4 (by omega)] at hrd hA3 ⊢
    go_wp2_with fail
    go_ret
    exact ⟨⟨q, c, rfl, hrd⟩, hA3, (hO.trans hO2).trans hO3⟩
  · have HT : Hid (textR m s = takeR (numR 1 s).1 (numR 1 s).2) := Lib.hid (by
      unfold textR
      rw [if_neg]
      intro h
      by_cases h2 : (numR 1 s).2.2 = 0
      · exact hb ⟨h2, h⟩
      · rw [HNN.out h2] at h; omega)
    rw [HT.out]
    go_enter Try.func55, Try.ntmps55
    go_wp2_with fail
    refine (fNumber_any 1 S D s w H.out (by omega)).mono ?_
    rintro e w1 ⟨rfl, hA, hO⟩
    have HA := Lib.hid hA
    obtain ⟨p, cap, B, at_, e, hR, habs, hBl⟩ := hA.ex
    have hc2 : w1.cell? ⟨S, 2, none⟩ = some (.int .i64 (e : Int)) := hR.row.cell rfl
    have hcase : e ≠ 0 ∨ (e = 0 ∧ ¬ m < ((numR 1 s).1 : Int)) := by
      by_cases h2 : e = 0
      · right
        refine ⟨h2, fun h => hb ⟨?_, h⟩⟩
        rw [← habs, h2, absR_ok]
      · exact .inl h2
    generalize hn : (numR 1 s).1 = n at hlt hcase ⊢
    have HN := Lib.hid hn
    clear hb HT hA habs hR hn HNN
    rcases hcase with h1 | ⟨rfl, h2⟩
    · have hz : ((e : Int) == 0) = false := by simp; omega
      clear h1
      go_wp2_with fail
      refine (fTake_any n S D _ w1 HA.out (by omega)).mono ?_
      rintro e2 w3 ⟨⟨q, c, rfl, hrd, _⟩, hA3, hO3⟩
      go_wp2_with fail
      go_ret
      rw [HN.out]
      exact ⟨⟨q, c, rfl, hrd⟩, hA3, hO.trans hO3⟩
    · have hd : decide (m < (n : Int)) = false := decide_eq_false h2
      clear h2
      go_wp2_with fail
      refine (fTake_any n S D _ w1 HA.out (by omega)).mono ?_
      rintro e2 w3 ⟨⟨q, c, rfl, hrd, _⟩, hA3, hO3⟩
      go_wp2_with fail
      go_ret
      rw [HN.out]
      exact ⟨⟨q, c, rfl, hrd⟩, hA3, hO.trans hO3⟩
theorem set_next (t zs : List Nat) (j : Nat) (h : j < t.length) (hz : j < zs.length) : (t.take j ++ zs.drop j).set j (t.getD j 0) = t.take (j + 1) ++ zs.drop (j + 1) := by
  have h1 : (t.take j).length = j := by rw [List.length_take]; omega
  rw [List.set_append_right _ _ (by omega), h1, Nat.sub_self, List.drop_eq_getElem_cons hz, List.set_cons_zero, take_snoc t j h, List.append_assoc]
  rfl
theorem u8s_set (l : List Nat) (j y : Nat) : (u8s l).set j (.int .u8 (y : Int)) = u8s (l.set j y) := by
  unfold u8s; rw [List.map_set]
/-- What holds in Hash's loop. -/
structure HhRel (w : World) (B : Nat) (t zs : List Nat) (i : Value) (wr : World) : Prop where
  ex : ∃ j : Nat, j ≤ t.length ∧ i = .int .i64 j ∧ Row wr B 23 (u8s (t.take j ++ zs.drop j))
  only : Only B w wr
theorem z_arr : Mem.Zero Try.prog 23 (u8s (List.replicate 32 0)) := by unfold Mem.Zero; kernel_rfl
theorem sz_arr : Sized Try.prog 23 32 := ⟨.array 32 5, by kernel_rfl, rfl, by kernel_rfl⟩
theorem built_arr : Try.prog.built 23 [] = some (u8s (List.replicate 32 0)).toArray := by kernel_rfl
theorem hash_end (s : RS) : (takeR 32 s).1 ++ (List.replicate 32 0).drop (takeR 32 s).1.length = (hashR s).1 := by
  unfold hashR takeR
  by_cases h : 32 ≤ s.1.length
  · simp only [if_pos h]
    rw [List.drop_eq_nil_of_le (by rw [List.length_replicate, List.length_take]; omega), List.append_nil]
  · simp only [if_neg h]
    rfl
set_option maxHeartbeats 1000000 in
set_option maxRecDepth 100000 in
theorem fHash_any (S D : Nat) (s : RS) (w : World) (h : RfAt w S D s) :
    Calls Try.prog 53 #[.pointer (some ⟨S, 0, none⟩)] w (RfPost w S D (.agg (u8s (hashR s).1).toArray) (hashR s).2) := by
  have hSl := h.row_lt
  have hDl := h.dle
  have H := Lib.hid h; clear h
  obtain ⟨zs, hzs⟩ : ∃ zs : List Nat, zs = List.replicate 32 0 := ⟨_, rfl⟩
  have HZ := Lib.hid hzs
  have hzl : zs.length = 32 := by rw [hzs]; simp
  have HZL := Lib.hid hzl
  have HZ0 : Hid (Mem.Zero Try.prog 23 (u8s zs)) := Lib.hid (by rw [hzs]; exact z_arr)
  have HZB : Hid (Try.prog.built 23 [] = some (u8s zs).toArray) := Lib.hid (by rw [hzs]; exact built_arr)
  clear hzs hzl
  go_enter Try.func53, Try.ntmps53
  go_wp2_with (first
    | ((with_reducible refine at_slot 2 ?_); (refine arm_alloc (o := ⟨some 2, _, _, _, _, _⟩) rfl _ rfl _ HZ0.out ?_); intro T w1 hT hR1 hN1)
    | ((with_reducible refine at_slot 6 ?_); (refine arm_build (o := ⟨some 6, _, _, _, _, _⟩) rfl _ _ rfl (u8s zs) (by rw [HZ.out]; kernel_rfl) ?_))
    | ((with_reducible refine at_slot 3 ?_); (refine arm_alloc (o := ⟨some 3, _, _, _, _, _⟩) rfl _ rfl _ HZ0.out ?_); intro B w2 hB hR2 hN2)
    | ((with_reducible refine arm_store (o := ⟨none, .store 23 _ _, _, _, _, _⟩) rfl _ _ _ rfl B 0 rfl (u8s zs) rfl _ _ hR2 (by rw [u8s_length]; omega) (u8s_one _) (by rw [u8s_length, HZL.out]; exact sz_arr) ?_); intro w3 hR3 hO3 hS3))
  have eT := hT.out; have eB := hB.out; have s1 := hN1.size; have s2 := hN2.size; have s3 := hS3.out
  have bel2 : Below w.heap.size w w2 := below_step hN1.below hN1.below.size hN2.below
  have bel3 : Below w.heap.size w w3 := below_only bel2 hO3 (by omega) (by omega)
  have hT3 : Row w3 T 23 (u8s zs) := (hR1.old hN2.below).only hO3 (by omega)
  have hB3 : Row w3 B 23 (u8s zs) := hR3.congr (lay_all _ _ rfl)
  have hA3 := H.out.old bel3
  have lT : w.heap.size ≤ T := by omega
  have lB : w.heap.size ≤ B := by omega
  have HNE : Hid (T ≠ S ∧ B ≠ S ∧ T ≠ B ∧ B < w3.heap.size) := Lib.hid ⟨by omega, by omega, by omega, by omega⟩
  clear eT eB s1 s2 s3 hT hB hR1 hN1 hR2 hN2 hR3 hO3 hS3 bel2 hSl
  refine (fTake_any 32 S D s w3 hA3 (by omega)).mono ?_
  rintro e y1 ⟨⟨q, c, rfl, hrd, hnil, hq⟩, hA1, hO1⟩
  have hB1 := hB3.only hO1 HNE.out.2.1
  have hT1 := hT3.only hO1 HNE.out.1
  have hlen := takeR_len 32 s
  have HE := Lib.hid (hash_end s)
  have HA1 : Hid (RfAt y1 S D (hashR s).2) := Lib.hid hA1
  have HHL := Lib.hid (hashR_len s)
  have hOa : Only S w y1 := (Only.of_below S bel3).trans hO1
  rw [← HZ.out] at HE
  have HRD := Lib.hid hrd
  have HQ : Hid (∀ j, blk q = some j → j ≠ B) := Lib.hid (fun j hj => by have := hq j hj; have := HNE.out.2.2.2; omega)
  clear hrd hnil hq hA1 hO1 hB3 hT3 hA3 bel3
  generalize (takeR 32 s).1 = t at HRD hlen HE ⊢
  generalize hhv : (hashR s).1 = hv at HE HHL
  have HHV := Lib.hid hhv; clear hhv
  have h0 : HhRel y1 B t zs (.int .i64 0) y1 := ⟨⟨0, by omega, rfl, by rw [List.take_zero, List.nil_append, List.drop_zero]; exact hB1⟩, Only.refl _ _⟩
  clear hB1
  go_wp2_with fail
  go_loopw [5] (fun i wr => HhRel y1 B t zs i wr) (fun i _ => t.length - (intOf i).toNat)
  case atStart => exact h0
  case round =>
    clear h0
    obtain ⟨⟨j, hj, rfl, hRB⟩, hOB⟩ := hrel
    by_cases hlt : j < t.length
    · obtain ⟨g, o, rfl, hc⟩ := HRD.out.cell hlt
      have hgB : g ≠ B := HQ.out g rfl
      have hcw : wr.cell? ⟨g, o + j, none⟩ = some (.int .u8 ((t.getD j 0 : Nat) : Int)) := by
        rw [World.cell?_of_block (w := y1) (a := ⟨g, o + j, none⟩) (hOB.block g (block_lt_of_cell hc) hgB)]; exact hc
      have ij : (j : Int) < (t.length : Int) := by omega
      have ij32 : (j : Int) < 32 := by omega
      have HSN := Lib.hid (set_next t zs j hlt (by have := HZL.out; omega))
      have HLL : Hid ((u8s (t.take j ++ zs.drop j)).length = 32) := Lib.hid (by rw [u8s_length, List.length_append, List.length_take, List.length_drop, HZL.out]; omega)
      clear hc hgB
      generalize t.getD j 0 = y at hcw HSN
      go_wp2_with (first
        | ((with_reducible refine arm_storeV (o := ⟨none, .store 5 _ _, _, _, _, _⟩) rfl _ _ _ rfl B j rfl (.int .u8 (y : Int)) rfl rfl (by kernel_rfl) _ _ hRB (by rw [HLL.out]; omega) ?_); intro w5 hR5 hO5 hS5))
      go_roundw
      case rel => exact ⟨⟨j + 1, by omega, by go_num, hR5.congr (by rw [u8s_set, HSN.out])⟩, hOB.trans hO5⟩
      case measure => simp [intOf]; omega
    · obtain rfl : j = t.length := by omega
      rw [List.take_of_length_le (Nat.le_refl _), HE.out] at hRB
      have hTw := hT1.only hOB HNE.out.2.2.1
      go_wp2_with (first
        | ((with_reducible refine at_slot 21 ?_); (refine arm_load (o := ⟨some 21, _, _, _, _, _⟩) rfl _ _ rfl B 0 rfl (u8s hv) (hRB.range 0 _ (fun j v hj => by rw [Nat.zero_add]; exact hj)) (by rw [u8s_length, HHL.out]; exact sz_arr) ?_))
        | ((with_reducible refine arm_store (o := ⟨none, _, _, _, _, _⟩) rfl _ _ _ rfl T 0 rfl (u8s hv) rfl _ _ hTw (by rw [u8s_length, u8s_length, HHL.out, HZL.out]; omega) (u8s_one _) (by rw [u8s_length, HHL.out]; exact sz_arr) ?_); intro w4 hR4 hO4 hS4))
      refine bodyPost_ret (v := .agg (u8s hv).toArray) (result_row (p := 2) (ty := 23) (u := 23) (by kernel_rfl) _ _ T _ rfl (hR4.congr (lay_all _ _ (by rw [u8s_length, u8s_length, HHL.out, HZL.out]))) (by rw [u8s_length, HHL.out]; exact sz_arr)) rfl ⟨by rw [HHV.out], ?_, only_new (only_new hOa hOB lB) hO4 lT⟩
      exact (HA1.out.other hOB (Ne.symm HNE.out.2.1) (by omega)).other hO4 (Ne.symm HNE.out.1) (by omega)
end Go.Proofs.Ytghogoijjaiccaa.Wi
