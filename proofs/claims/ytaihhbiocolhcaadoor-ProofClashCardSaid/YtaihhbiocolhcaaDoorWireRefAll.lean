import Derived.Test.YtaihhbiocolhcaaDoorWireAll
/-
  Small laws of wire's that the law's own texts and the document's reader share. Over this seat's translation.
-/
namespace Go.Proofs.YtaihhbiocolhcaaDoor.Wi
open Go.ChangeShapes Go.WideShapes Go.ChangeAt Go.RowKit Go.Proofs.YtaihhbiocolhcaaDoor.Mem Go.Proofs.YtaihhbiocolhcaaDoor.Bt Go.Proofs.YtaihhbiocolhcaaDoor.Tg Go.Proofs.YtaihhbiocolhcaaDoor.Sha
set_option linter.unusedVariables false
set_option linter.unusedSimpArgs false

theorem put1 (n : Nat) : put n 1 = [n % 256] := rfl

theorem eq8 (m n : Nat) : (((m : Nat) : Int) == IntKind.u8.wrap (n : Int)) = decide (m = n % 256) := by
  have h : IntKind.u8.wrap (n : Int) = ((n % 256 : Nat) : Int) := by simp [IntKind.wrap, IntKind.signed, IntKind.bits]
  rw [h]
  by_cases e : m = n % 256
  · rw [decide_eq_true e, e]; simp
  · rw [decide_eq_false e]; exact beq_eq_false_iff_ne.2 (by omega)
theorem eq32 (m n : Nat) : (((m : Nat) : Int) == IntKind.u32.wrap (n : Int)) = decide (m = n % 4294967296) := by
  have h : IntKind.u32.wrap (n : Int) = ((n % 4294967296 : Nat) : Int) := by simp [IntKind.wrap, IntKind.signed, IntKind.bits]
  rw [h]
  by_cases e : m = n % 4294967296
  · rw [decide_eq_true e, e]; simp
  · rw [decide_eq_false e]; exact beq_eq_false_iff_ne.2 (by omega)
theorem eq64 (m n : Nat) : (((m : Nat) : Int) == (n : Int)) = decide (m = n) := by
  by_cases e : m = n
  · rw [decide_eq_true e, e]; simp
  · rw [decide_eq_false e]; exact beq_eq_false_iff_ne.2 (by omega)
theorem textR_left (m : Int) (s : RS) : (textR m s).1.length ≤ s.1.length := by
  unfold textR
  split
  · simp
  · have h1 := takeR_left 1 s
    have h2 : (takeR (numR 1 s).1 (numR 1 s).2).1.length ≤ (numR 1 s).2.1.length := by
      unfold takeR; split
      · simp; omega
      · simp
    exact Nat.le_trans h2 h1

theorem takeR_all (bs rest : List Nat) (e k : Nat) (h : bs.length = k) : takeR k (bs ++ rest, e) = (bs, (rest, e)) := by
  subst h
  unfold takeR
  rw [if_pos (by simp)]
  simp
theorem takeR_short (bs : List Nat) (k : Nat) (h : bs.length < k) : takeR k (bs, 0) = ([], ([], 3)) := by
  unfold takeR
  rw [if_neg (show ¬ k ≤ bs.length by omega)]
  rfl
theorem takeR_stay (k : Nat) : takeR k ([], 3) = ([], ([], 3)) := by
  unfold takeR
  split
  · simp
  · rfl
theorem numR_all (bs rest : List Nat) (e k : Nat) (h : bs.length = k) : numR k (bs ++ rest, e) = (numOf bs, (rest, e)) := by
  unfold numR; rw [takeR_all bs rest e k h]
theorem numR_short (bs : List Nat) (k : Nat) (h : bs.length < k) : numR k (bs, 0) = (0, ([], 3)) := by
  unfold numR; rw [takeR_short bs k h]; rfl
theorem numR_stay (k : Nat) : numR k ([], 3) = (0, ([], 3)) := by unfold numR; rw [takeR_stay]; rfl
theorem numOf_one (a : Nat) : numOf [a] = a := by simp [numOf]
theorem hashR_short (bs : List Nat) (h : bs.length < 32) : (hashR (bs, 0)).2 = ([], 3) := by unfold hashR; rw [takeR_short bs 32 h]
theorem hashR_stay : (hashR ([], 3)).2 = ([], 3) := by unfold hashR; rw [takeR_stay]
theorem textR_stay : textR 255 ([], 3) = ([], ([], 3)) := by unfold textR; rw [numR_stay]; rw [if_neg (by decide)]; exact takeR_stay 0
theorem take_append_short (a b : List Nat) (c : Nat) (h : c < a.length) : (a ++ b).take c = a.take c := by
  rw [List.take_append, show c - a.length = 0 by omega]; simp
theorem take_append_long (a b : List Nat) (c : Nat) (h : a.length ≤ c) : (a ++ b).take c = a ++ b.take (c - a.length) := by
  rw [List.take_append, List.take_of_length_le h]
theorem built_wr : Tryd.prog.built 111 [] = some [.slice none 0 0].toArray := by kernel_rfl
section
variable {ops : Array Oper} {rest : List Oper} {o : Oper} {a : Act} {w : World} {Q : Exit → Act → World → Prop}
/-- A slice that is written out, behind '&&' or '||'. -/
theorem arm_buildSliceG (hw : Region.wanted o (yielded ops a.tmps) = true) (n : Nat) (parts : Array (Nat × Operand)) (ho : o.op = .buildSlice 30 n parts) (vs : List Value) (pv : Array (Nat × Value)) (hpv : (parts.map fun (i, x) => (i, a.eval x)) = pv)
    (hr : ∀ w : World, (Instr.buildSlice 30 n pv).run Tryd.prog w = .ok (.slice (some ⟨w.heap.size, 0, none⟩) n n) (w.alloc (.cells vs.toArray 5)))
    (h : ∀ b w2, Hid (b = w.heap.size) → Row w2 b 5 vs → New w w2 → wpList Tryd.prog ops Q rest (a.put o.dst (.slice (some ⟨b, 0, none⟩) n n)) w2) : wpList Tryd.prog ops Q (o :: rest) a w := by
  refine BigFrame.wpList_want hw fun K hK => ?_
  unfold Oper.wp execOp
  simp only [ho, hpv, Sem.run_bind, hr w, Result.andThen_ok, Sem.run_pure]
  exact hK _ _ (h _ _ rfl (heap_alloc_new _ _) (new_alloc _ _))
/-- 'make([]byte, n)', likewise. -/
theorem arm_makeG (hw : Region.wanted o (yielded ops a.tmps) = true) (l c : Operand) (ho : o.op = .makeSlice 30 l c) (i : Int) (hl : a.eval l = .int .i64 i) (hc : a.eval c = .int .i64 i) (n : Nat) (hn : i = (n : Int)) (hm : n ≤ 1000000)
    (h : ∀ b w2, Hid (b = w.heap.size) → Row w2 b 5 (u8s (List.replicate n 0)) → New w w2 → wpList Tryd.prog ops Q rest (a.put o.dst (.slice (some ⟨b, 0, none⟩) n n)) w2) : wpList Tryd.prog ops Q (o :: rest) a w := by
  subst hn
  refine BigFrame.wpList_want hw fun K hK => ?_
  have hr := run_make_row' (P := Tryd.prog) 30 5 (.int .u8 0) 1 (by kernel_rfl) info5 rfl .i64 .i64 n (by omega) (by omega) w
  rw [made_u8s] at hr
  unfold Oper.wp execOp
  simp only [ho, hl, hc, Sem.run_bind, hr, Result.andThen_ok, Sem.run_pure]
  exact hK _ _ (h _ _ rfl (heap_alloc_new _ _) (new_alloc _ _))
end
theorem bs6 (w : World) : (Instr.buildSlice 30 6 #[(0, .int .u8 0), (1, .int .u8 0), (2, .int .u8 1), (3, .int .u8 2), (4, .int .u8 1), (5, .int .u8 7)]).run Tryd.prog w = .ok (.slice (some ⟨w.heap.size, 0, none⟩) 6 6) (w.alloc (.cells (u8s [0, 0, 1, 2, 1, 7]).toArray 5)) := by kernel_rfl
theorem sep_new {w : World} {base b : Nat} {p : Option Addr} {cap : Nat} {bs : List Nat} (h : Own w base p cap bs) (hb : w.heap.size ≤ b) : Sep p (some ⟨b, 0, none⟩) := fun k hk e => by
  have h1 := (own_blk h hk).2.1
  have : b = k := Option.some.inj e
  omega
section
variable {w w' : World} {base A B C : Nat} {pa pa' : Option Addr} {ca ca' : Nat} {la la' : List Nat} {pb : Option Addr} {cb : Nat} {bs : List Nat} {pc pc' : Option Addr} {cc cc' : Nat} {cs cs' : List Nat} {q : Option Addr} {qc : Nat} {qs : List Nat}
theorem row_step {X : Nat} {t : TypeId} {xs : List Value} (hx : Row w X t xs) (ha : Wr w base A pa ca la) (hs : Step (some A) pa pa' w w') (hne : X ≠ A) (ht : t ≠ 5 := by decide) : Row w' X t xs :=
  hx.of_block (hs.block X hx.lt (fun e => hne (Option.some.inj e).symm) (row_not_own hx ht ha.own))
end
theorem same_at (xs ys : List Nat) (p q : Option Addr) (c d m n : Nat) (hm : m = xs.length) (hn : n = ys.length) (w : World) (hp : Rd w p xs) (hq : Rd w q ys) (hx : xs.length ≤ 1000000) (hy : ys.length ≤ 1000000) :
    Calls Tryd.prog 12 #[.slice p m c, .slice q n d] w fun e w' => e = .returned (.bool (decide (xs = ys))) ∧ Below w.heap.size w w' := by
  subst hm hn
  exact same_any xs ys p q c d w hp hq hx hy
/-- A stop for the walk. -/
def Pause (p : Prop) : Prop := p
theorem pause {p : Prop} (h : Pause p) : p := h
theorem sep_none (p : Option Addr) : Sep p none := fun k _ e => by cases e
theorem sep_none' (p : Option Addr) : Sep none p := fun k e => by cases e
theorem txt_len (b : List Nat) : (txt b).length ≤ 256 := by
  unfold txt
  split
  · rw [List.length_cons]; omega
  · simp
/-- A writer beside a slice that grows. -/
theorem wr_beside {w w' : World} {base W : Nat} {p q q' : Option Addr} {cap qc : Nat} {bs ws : List Nat} (h : Wr w base W p cap bs) (ho : Own w base q qc ws) (hs : Step none q q' w w') (hsep : Sep q p) : Wr w' base W p cap bs :=
  ⟨h.row.of_block (hs.block W h.lt (by simp) (row_not_own h.row (by decide) ho)), own_step h.own hs hsep (fun k hk => by cases hk), h.low⟩
end Go.Proofs.YtaihhbiocolhcaaDoor.Wi

/-
  The contracts of the document's Put and Text of layer 4, over this seat's translation.
-/
namespace Go.Proofs.YtaihhbiocolhcaaDoor.Wi
open Go.ChangeShapes Go.WideShapes Go.ChangeAt Go.RowKit Go.Proofs.YtaihhbiocolhcaaDoor.Mem Go.Proofs.YtaihhbiocolhcaaDoor.Bt Go.Proofs.YtaihhbiocolhcaaDoor.Tg
set_option linter.unusedVariables false
set_option linter.unusedSimpArgs false

/-- What holds in Put's loop. -/
structure PuRel (w : World) (n s : Nat) (i v m : Value) (wr : World) : Prop where
  ex : ∃ k : Nat, k ≤ s ∧ i = .int .i64 k ∧ m = .int .u64 ((n / 256 ^ k : Nat) : Int) ∧ ∃ p cap, v = .slice p k cap ∧ Own wr w.heap.size p cap (put n k)
  bel : Below w.heap.size w wr
/-- What Put leaves. -/
structure PutPost (w : World) (n s : Nat) (e : Ending) (w' : World) : Prop where
  ex : ∃ p cap, e = .returned (.slice p s cap) ∧ Own w' w.heap.size p cap (put n s)
  bel : Below w.heap.size w w'
set_option maxHeartbeats 1000000 in
set_option maxRecDepth 100000 in
theorem put_any (n s : Nat) (w : World) (hn : n < 18446744073709551616) (hs : s ≤ 8) :
    Calls Tryd.prog 64 #[.int .u64 (n : Int), .int .i64 (s : Int)] w (PutPost w n s) := by
  go_enter Tryd.func64, Tryd.ntmps64
  go_wp2_with (first
    | ((with_reducible refine at_slot 7 ?_); (refine arm_buildSlice (o := ⟨some 7, _, _, _, _, _⟩) rfl 0 _ rfl [] #[] (by simp) bs0 ?_); intro b1 w1 hb1 hR1 hN1))
  have h0 : PuRel w n s (.int .i64 0) (.slice (some ⟨b1, 0, none⟩) 0 0) (.int .u64 (n : Int)) w1 := ⟨⟨0, by omega, rfl, by simp, _, _, rfl, own_new hR1 (by have := hb1.out; omega)⟩, hN1.below⟩
  clear hb1 hR1 hN1
  go_loopw [6, 5, 0] (fun i v m wr => PuRel w n s i v m wr) (fun i _ _ _ => s - (intOf i).toNat)
  case atStart => exact h0
  case round =>
    clear h0 w1
    obtain ⟨⟨k, hk, rfl, rfl, p, cap, rfl, hO⟩, hbel⟩ := hrel
    by_cases hlt : k < s
    · have ik : (k : Int) < (s : Int) := by omega
      have HO := Lib.hid hO; clear hO
      have HC := Lib.hid (put_cons k n)
      have HPL := Lib.hid (put_length k n)
      have HD : Hid (n / 256 ^ (k + 1) = n / 256 ^ k / 256) := Lib.hid (by rw [Nat.pow_succ, Nat.div_div_eq_div_mul])
      have hmn : n / 256 ^ k < 18446744073709551616 := Nat.lt_of_le_of_lt (Nat.div_le_self _ _) hn
      generalize n / 256 ^ k = m at HC HD hmn
      have HV : Hid ((m : Int) % 256 = ((m % 256 : Nat) : Int)) := Lib.hid (by omega)
      have hws := hbel.size
      go_wp2_with (first
        | ((with_reducible refine at_slot 16 ?_); (refine arm_buildSlice (o := ⟨some 16, _, _, _, _, _⟩) rfl 1 _ rfl [.int .u8 ((m % 256 : Nat) : Int)] #[(0, .int .u8 ((m % 256 : Nat) : Int))] (by simp [Act.eval]) (bs1 _) ?_); intro b2 w2 hb2 hR2 hN2)
        | ((with_reducible refine at_slot 18 ?_); (refine arm_append2 (o := ⟨some 18, _, _, _, _, _⟩) rfl _ _ rfl wr.heap.size (some ⟨b2, 0, none⟩) 1 1 [m % 256] rfl rfl (own_row (bs := [m % 256]) hR2 (by have := hb2.out; omega) (by simp)) p k cap (put n k) rfl HPL.out.symm (fun e => by have := own_none HO.out e; rw [HPL.out] at this; exact this) (HO.out.below hN2.below).bytes (by rw [HPL.out, List.length_singleton]; omega) (by have := hN2.below.size; omega) ?_); intro p3 cap3 w3 hO3 hS3))
      have s2 := hN2.below.size
      have bel3 : Below wr.heap.size wr w3 := hN2.below.trans (hS3.below (fun j hj => by cases hj) (fun j hj => by have h1 : b2 = j := Option.some.inj hj; have := hb2.out; omega) s2)
      go_roundw
      case rel => exact ⟨⟨k + 1, by omega, by go_num, by rw [HD.out]; congr 1, p3, cap3, by congr 1; omega, by rw [HC.out]; exact own_mono hO3 hws⟩, below_step hbel hws bel3⟩
      case measure => simp [intOf]; omega
    · obtain rfl : k = s := by omega
      go_wp2_with fail
      go_ret
      exact ⟨⟨p, cap, rfl, hO⟩, hbel⟩
/-- What the document's Text leaves. -/
structure TxtPost (w : World) (ys : List Nat) (e : Ending) (w' : World) : Prop where
  ex : ∃ p cap, e = .returned (.tuple #[.slice p (txt ys).length cap, .bool (decide (ys.length ≤ 255))]) ∧ Own w' w.heap.size p cap (txt ys)
  bel : Below w.heap.size w w'
end Go.Proofs.YtaihhbiocolhcaaDoor.Wi

/-
  The document's reader of layer 4: its memory, and the contract of Take, over this seat's translation.
-/
namespace Go.Proofs.YtaihhbiocolhcaaDoor.Wi
open Go.ChangeShapes Go.WideShapes Go.ChangeAt Go.RowKit Go.Proofs.YtaihhbiocolhcaaDoor.Mem Go.Proofs.YtaihhbiocolhcaaDoor.Bt Go.Proofs.YtaihhbiocolhcaaDoor.Tg
set_option linter.unusedVariables false
set_option linter.unusedSimpArgs false

/-- The state of a reader that is at this place of some bytes. -/
def absR (B : List Nat) (at_ e : Nat) : RS := if e = 0 then (B.drop at_, 0) else ([], e)
def fcells (p : Option Addr) (n cap at_ e : Nat) : List Value := [.slice p n cap, .int .i64 (at_ : Int), .int .i64 (e : Int)]
theorem fcells_no (p : Option Addr) (n cap at_ e : Nat) : ∀ (i : Nat) (m : Int), (fcells p n cap at_ e)[i]? ≠ some (.int .u8 m) := by
  intro i m
  match i with
  | 0 => simp [fcells]
  | 1 => simp [fcells]
  | 2 => simp [fcells]
  | i + 3 => simp [fcells]
theorem absR_lt {B : List Nat} (h : AllLt 256 B) (a e : Nat) : AllLt 256 (absR B a e).1 := by
  unfold absR; split
  · exact fun x hx => h x (List.mem_of_mem_drop hx)
  · intro x hx; cases hx
theorem absR_bad (B : List Nat) (a e : Nat) (h : e ≠ 0) : absR B a e = ([], e) := by unfold absR; rw [if_neg h]
theorem absR_ok (B : List Nat) (a : Nat) : absR B a 0 = (B.drop a, 0) := by unfold absR; rw [if_pos rfl]
theorem takeR_bad (k e : Nat) (h : e ≠ 0) : takeR k ([], e) = ([], ([], e)) := by
  unfold takeR failed
  split
  · simp
  · simp [h]
theorem onP_eq_none {p : Option Addr} {m cap : Nat} (h : onP p m cap = none) : p = none := by
  cases p with
  | none => rfl
  | some ad => unfold onP at h; split at h <;> simp at h
theorem wrap_small {m n : Int} (h0 : -4611686018427387904 ≤ m + n) (h1 : m + n ≤ 4611686018427387904) : IntKind.i64.wrap (m + n) = m + n := by
  simp [IntKind.wrap, IntKind.signed, IntKind.bits]; omega
theorem run_op_bs0 {o : Oper} {a : Act} (ho : o.op = .buildSlice 30 0 #[]) (w : World) : (execOp a.eval o).run Tryd.prog w = .ok (.value (.slice (some ⟨w.heap.size, 0, none⟩) 0 0)) (w.alloc (.cells #[] 5)) := by
  unfold execOp
  simp only [ho, List.map_toArray, List.map_nil, Sem.run_bind, bs0 w, Result.andThen_ok, Sem.run_pure]

end Go.Proofs.YtaihhbiocolhcaaDoor.Wi

/-
  The contracts of the document's reader of layer 4 (Number, Hash, Text, Left, End), over this seat's translation.
-/
namespace Go.Proofs.YtaihhbiocolhcaaDoor.Wi
open Go.ChangeShapes Go.WideShapes Go.ChangeAt Go.RowKit Go.Proofs.YtaihhbiocolhcaaDoor.Mem Go.Proofs.YtaihhbiocolhcaaDoor.Bt Go.Proofs.YtaihhbiocolhcaaDoor.Tg
set_option linter.unusedVariables false
set_option linter.unusedSimpArgs false

end Go.Proofs.YtaihhbiocolhcaaDoor.Wi

/-
  The contracts of the document's reader of layer 4 (Text, Hash), over this seat's translation.
-/
namespace Go.Proofs.YtaihhbiocolhcaaDoor.Wi
open Go.ChangeShapes Go.WideShapes Go.ChangeAt Go.RowKit Go.Proofs.YtaihhbiocolhcaaDoor.Mem Go.Proofs.YtaihhbiocolhcaaDoor.Bt Go.Proofs.YtaihhbiocolhcaaDoor.Tg
set_option linter.unusedVariables false
set_option linter.unusedSimpArgs false

theorem takeR_none (B : List Nat) (a e k : Nat) (h : (takeR k (absR B a e)).2.2 ≠ 0) : (takeR k (absR B a e)).1 = [] := by
  by_cases he : e = 0
  · subst he
    rw [absR_ok] at h ⊢
    unfold takeR at h ⊢
    split at h
    · simp at h
    · rename_i h2; rw [if_neg h2]
  · rw [absR_bad B a e he, takeR_bad k e he]
theorem set_next (t zs : List Nat) (j : Nat) (h : j < t.length) (hz : j < zs.length) : (t.take j ++ zs.drop j).set j (t.getD j 0) = t.take (j + 1) ++ zs.drop (j + 1) := by
  have h1 : (t.take j).length = j := by rw [List.length_take]; omega
  rw [List.set_append_right _ _ (by omega), h1, Nat.sub_self, List.drop_eq_getElem_cons hz, List.set_cons_zero, take_snoc t j h, List.append_assoc]
  rfl
theorem u8s_set (l : List Nat) (j y : Nat) : (u8s l).set j (.int .u8 (y : Int)) = u8s (l.set j y) := by
  unfold u8s; rw [List.map_set]
/-- What holds in Hash's loop. -/
structure HhRel (w : World) (B : Nat) (t zs : List Nat) (i : Value) (wr : World) : Prop where
  ex : ∃ j : Nat, j ≤ t.length ∧ i = .int .i64 j ∧ Row wr B 22 (u8s (t.take j ++ zs.drop j))
  only : Only B w wr
theorem z_arr : Mem.Zero Tryd.prog 22 (u8s (List.replicate 32 0)) := by unfold Mem.Zero; kernel_rfl
theorem sz_arr : Sized Tryd.prog 22 32 := ⟨.array 32 5, by kernel_rfl, rfl, by kernel_rfl⟩
theorem built_arr : Tryd.prog.built 22 [] = some (u8s (List.replicate 32 0)).toArray := by kernel_rfl
theorem hash_end (s : RS) : (takeR 32 s).1 ++ (List.replicate 32 0).drop (takeR 32 s).1.length = (hashR s).1 := by
  unfold hashR takeR
  by_cases h : 32 ≤ s.1.length
  · simp only [if_pos h]
    rw [List.drop_eq_nil_of_le (by rw [List.length_replicate, List.length_take]; omega), List.append_nil]
  · simp only [if_neg h]
    rfl
end Go.Proofs.YtaihhbiocolhcaaDoor.Wi
