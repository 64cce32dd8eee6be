import Derived.Test.YtnjmocobncncdaaGreatDoorStoIn
import Derived.Test.YtnjmocobncncdaaGreatDoorLnkSpec
import Derived.Test.YtnjmocobncncdaaGreatDoorOrdAll
import Derived.Test.YtnjmocobncncdaaGreatDoorCats
import Derived.Test.YtnjmocobncncdaaGreatDoorLast
import Derived.Test.YtnjmocobncncdaaGreatDoorEpoAll
import Derived.Test.YtnjmocobncncdaaGreatDoorCmp
import Derived.Test.YtnjmocobncncdaaGreatDoorMemAll
import Derived.LoopTactic
import Derived.Test.YtnjmocobncncdaaGreatDoorFitAll
/-
  The document's store, as cells: states and keys in slices, room, pin; where a digest stands. Over this seat's translation.
-/
namespace Go.Proofs.YtnjmocobncncdaaGreatDoor.So
open Go.ChangeShapes Go.WideShapes Go.ChangeAt Go.RowKit Go.Proofs.YtnjmocobncncdaaGreatDoor.Mem Go.Proofs.YtnjmocobncncdaaGreatDoor.Bt
open Go.Proofs.YtnjmocobncncdaaGreatDoor.Ep (H32 zh zh_ok Has h_len szH zH fitH allH one_app)
open Go.Proofs.YtnjmocobncncdaaGreatDoor.Sl (Kind At bk)
open Go.Proofs.YtnjmocobncncdaaGreatDoor.Sa (Sta scs digS)
open Go.Proofs.YtnjmocobncncdaaGreatDoor.Od (Ky kcs kRK fRK keyN kcs_len k33)
open Go.Proofs.YtnjmocobncncdaaGreatDoor.Lk (kR fR)
set_option linter.unusedVariables false
set_option linter.unusedSimpArgs false

def posK : List Ky → List Nat → Option Nat
  | [], _ => none
  | x :: M, h => if x.hash = h then some 0 else (posK M h).map (· + 1)
def posI (M : List Ky) (h : List Nat) : Int := match posK M h with
  | some i => (i : Int)
  | none => -1
theorem pos_at : ∀ {M : List Ky} {h : List Nat} {i : Nat} {x : Ky}, M[i]? = some x → x.hash = h → (∀ j q, j < i → M[j]? = some q → q.hash ≠ h) → posK M h = some i
  | [], h, i, x, e, _, _ => by simp at e
  | q :: M, h, 0, x, e, he, _ => by
    obtain rfl : q = x := by simpa using e
    unfold posK
    rw [if_pos he]
  | q :: M, h, i + 1, x, e, he, hn => by
    unfold posK
    rw [if_neg (hn 0 q (by omega) rfl), pos_at (M := M) (by simpa using e) he (fun j r hj hr => hn (j + 1) r (by omega) (by simpa using hr))]
    rfl
theorem pos_no : ∀ {M : List Ky} {h : List Nat}, (∀ j q, j < M.length → M[j]? = some q → q.hash ≠ h) → posK M h = none
  | [], h, _ => rfl
  | q :: M, h, hn => by
    unfold posK
    rw [if_neg (hn 0 q (by simp) rfl), pos_no (M := M) (fun j r hj hr => hn (j + 1) r (by simpa using hj) (by simpa using hr))]
    rfl
theorem pos_lt : ∀ {M : List Ky} {h : List Nat} {i : Nat}, posK M h = some i → ∃ x, M[i]? = some x ∧ x.hash = h
  | [], h, i, e => by cases e
  | q :: M, h, i, e => by
    unfold posK at e
    by_cases c : q.hash = h
    · rw [if_pos c] at e
      obtain rfl := Option.some.inj e
      exact ⟨q, rfl, c⟩
    · rw [if_neg c] at e
      obtain ⟨j, hj, rfl⟩ := Option.map_eq_some_iff.1 e
      obtain ⟨x, h1, h2⟩ := pos_lt hj
      exact ⟨x, by simpa using h1, h2⟩
def ncs (pl : Option Addr) (n cl : Nat) (pk : Option Addr) (m ck : Nat) (r : Nat) (pin : Option (List Nat)) : List Value :=
  [.slice pl n cl, .slice pk m ck, .int .i64 (r : Int), .bool pin.isSome] ++ u8s (pin.getD zh)
theorem built_sto (r : Nat) : Tryz.prog.built 68 [(2, .int .i64 (r : Int))] = some (ncs none 0 0 none 0 0 r none).toArray := by kernel_rfl
structure RSAt (w : World) (F : Nat → Prop) (S r : Nat) (pin : Option (List Nat)) (L : List Sta) : Prop where
  ex : ∃ pl cl pk ck, Row w S 68 (ncs pl L.length cl pk L.length ck r pin) ∧ Sl.Own kR w 0 pl cl L ∧ Sl.Own kRK w 0 pk ck (L.map keyN) ∧ F S ∧ (∀ g, bk pl = some g → F g) ∧ ∀ g, bk pk = some g → F g
  pok : ∀ p, pin = some p → H32 p
  lies : Lies F w
section
variable {w w' : World} {F G F' : Nat → Prop} {S r : Nat} {pin : Option (List Nat)} {L : List Sta}
theorem RSAt.chg (h : RSAt w F S r pin L) (c : Chg G w w') (hs : Sep G F) : RSAt w' F S r pin L := by
  obtain ⟨pl, cl, pk, ck, h1, h2, h3, f1, f2, f3⟩ := h.ex
  exact ⟨⟨pl, cl, pk, ck, h1.chg c (fun e => hs S e f1), h2.chg c (fun g hg e => hs g e (f2 g hg)), h3.chg c (fun g hg e => hs g e (f3 g hg)), f1, f2, f3⟩, h.pok, h.lies.mono c.size⟩
theorem RSAt.old (h : RSAt w F S r pin L) (hb : Below w.heap.size w w') : RSAt w' F S r pin L := h.chg (Chg.of_below (fun _ => False) hb) (fun k hk => hk.elim)
theorem pin_ok (h : ∀ p, pin = some p → H32 p) : H32 (pin.getD zh) := by
  cases pin with
  | none => exact zh_ok
  | some p => exact h p rfl
/-- A key's digest, in memory. -/
theorem key_hash {g o k : Nat} {x : Ky} (kx : x.Ok) (h : w.rangeAt g (o + k * 65) (kcs x)) : w.rangeAt g (o + k * 65 + 33) (u8s x.hash) := fun j v hj => by
  obtain ⟨p, r, hc, hp⟩ := (k33 kx).ex
  have e : (kcs x)[33 + j]? = some v := by
    rw [hc, ← hp, List.getElem?_append_right (by omega), Nat.add_sub_cancel_left, List.getElem?_append_left (List.getElem?_eq_some_iff.1 hj).1]
    exact hj
  have := h (33 + j) v e
  rw [← Nat.add_assoc] at this
  exact this
theorem range_u8 {g o : Nat} {x : List Nat} (h : w.rangeAt g o (u8s x)) (k : H32 x) (hb : Below w.heap.size w w') : w'.rangeAt g o (u8s x) :=
  range_block h (hb.block g (range_lt h (fun e => by have := congrArg List.length e; rw [h_len k] at this; cases this)))
end
section
variable {o : Oper} {a : Act}
theorem run_op_eqlV (x y : Operand) (t' : TypeId) (ho : o.op = .binOp .eql 32 x y t') (xs ys : List Nat) (hlx : H32 xs) (hly : H32 ys) (hx : a.eval x = .agg (u8s xs).toArray) (hy : a.eval y = .agg (u8s ys).toArray) (b : Bool) (hb : decide (xs = ys) = b) (w : World) : (execOp a.eval o).run Tryz.prog w = .ok (.value (.bool b)) w := by
  subst hb
  exact Sha.run_op_eql2 x y t' ho xs ys hlx.len hly.len hx hy w
end
theorem one_sl (p : Option Addr) (n c : Nat) : (Value.slice p n c).oneCell' = true := rfl
theorem one_boo (b : Bool) : (Value.bool b).oneCell' = true := rfl
end Go.Proofs.YtnjmocobncncdaaGreatDoor.So

/-
  The contracts of the document's New and Find, of layer 19. Over this seat's translation.
-/
namespace Go.Proofs.YtnjmocobncncdaaGreatDoor.So
open Go.ChangeShapes Go.WideShapes Go.ChangeAt Go.RowKit Go.Proofs.YtnjmocobncncdaaGreatDoor.Mem Go.Proofs.YtnjmocobncncdaaGreatDoor.Bt
open Go.Proofs.YtnjmocobncncdaaGreatDoor.Ep (H32 zh zh_ok Has h_len szH zH fitH allH one_app)
open Go.Proofs.YtnjmocobncncdaaGreatDoor.Sl (Kind At bk)
open Go.Proofs.YtnjmocobncncdaaGreatDoor.Sa (Sta scs digS)
open Go.Proofs.YtnjmocobncncdaaGreatDoor.Od (Ky kcs kRK fRK keyN kcs_len k33)
open Go.Proofs.YtnjmocobncncdaaGreatDoor.Lk (kR fR)
set_option linter.unusedVariables false
set_option linter.unusedSimpArgs false

structure RSNewPost (w : World) (room : Int) (e : Ending) (w' : World) : Prop where
  ex : (2 ≤ room ∧ room ≤ 100 ∧ ∃ S F, e = .returned (.tuple #[.pointer (some ⟨S, 0, none⟩), .int .i64 0]) ∧ RSAt w' F S room.toNat none [] ∧ From F w.heap.size) ∨ (¬ (2 ≤ room ∧ room ≤ 100) ∧ e = .returned (.tuple #[.pointer none, .int .i64 1]))
  bel : Below w.heap.size w w'
set_option maxHeartbeats 4000000 in
set_option maxRecDepth 100000 in
theorem rsnew_any (room : Int) (w : World) :
    Calls Tryz.prog 6 #[.int .i64 room] w (RSNewPost w room) := by
  by_cases h1 : room < 2
  · have d1 : decide (room < 2) = true := decide_eq_true h1
    have HN : Hid (¬ (2 ≤ room ∧ room ≤ 100)) := Lib.hid (by omega)
    clear h1
    go_enter Tryz.func6, Tryz.ntmps6
    go_wp2_with (first
      | ((with_reducible refine at_slot 5 ?_); (refine arm_want (.bool true) 5 rfl (by kernel_rfl) (cmp_lss _ _ _ _ rfl .i64 (room) (2) rfl rfl true (d1) _) ?_); try simp only [Act.put, List.setIfInBounds_toArray, List.set_cons_zero, List.set_cons_succ]))
    go_ret2
    exact ⟨.inr ⟨HN.out, rfl⟩, Below.refl _ _⟩
  · by_cases h2 : 100 < room
    · have d1 : decide (room < 2) = false := decide_eq_false h1
      have d2 : decide (100 < room) = true := decide_eq_true h2
      have HN : Hid (¬ (2 ≤ room ∧ room ≤ 100)) := Lib.hid (by omega)
      clear h1 h2
      go_enter Tryz.func6, Tryz.ntmps6
      go_wp2_with (first
        | ((with_reducible refine at_slot 5 ?_); (refine arm_want (.bool false) 5 rfl (by kernel_rfl) (cmp_lss _ _ _ _ rfl .i64 (room) (2) rfl rfl false (d1) _) ?_); try simp only [Act.put, List.setIfInBounds_toArray, List.set_cons_zero, List.set_cons_succ])
        | ((with_reducible refine at_slot 8 ?_); (refine arm_want (.bool true) 8 rfl (by kernel_rfl) (cmp_gtr _ _ _ _ rfl .i64 (room) (100) rfl rfl true (d2) _) ?_); try simp only [Act.put, List.setIfInBounds_toArray, List.set_cons_zero, List.set_cons_succ]))
      go_ret2
      exact ⟨.inr ⟨HN.out, rfl⟩, Below.refl _ _⟩
    · obtain ⟨r, rfl⟩ : ∃ r : Nat, room = (r : Int) := ⟨room.toNat, by omega⟩
      have d1 : decide ((r : Int) < 2) = false := decide_eq_false h1
      have d2 : decide (100 < (r : Int)) = false := decide_eq_false h2
      have HR1 : Hid (2 ≤ r ∧ r ≤ 100) := Lib.hid (by omega)
      have BC := Lib.hid built_sto
      clear h1 h2
      go_enter Tryz.func6, Tryz.ntmps6
      go_wp2_with (first
        | ((with_reducible refine at_slot 5 ?_); (refine arm_want (.bool false) 5 rfl (by kernel_rfl) (cmp_lss _ _ _ _ rfl .i64 ((r : Int)) (2) rfl rfl false (d1) _) ?_); try simp only [Act.put, List.setIfInBounds_toArray, List.set_cons_zero, List.set_cons_succ])
        | ((with_reducible refine at_slot 8 ?_); (refine arm_want (.bool false) 8 rfl (by kernel_rfl) (cmp_gtr _ _ _ _ rfl .i64 ((r : Int)) (100) rfl rfl false (d2) _) ?_); try simp only [Act.put, List.setIfInBounds_toArray, List.set_cons_zero, List.set_cons_succ])
        | ((with_reducible refine at_slot 11 ?_); (refine arm_build (o := ⟨some 11, _, _, _, _, _⟩) rfl _ _ rfl (ncs none 0 0 none 0 0 r none) (by simp only [List.map_toArray, List.map_cons, List.map_nil]; exact BC.out r) ?_); try simp only [Act.put, List.setIfInBounds_toArray, List.set_cons_zero, List.set_cons_succ])
        | ((with_reducible refine at_slot 12 ?_); (refine arm_box (o := ⟨some 12, _, _, _, _, _⟩) rfl _ _ rfl (ncs none 0 0 none 0 0 r none) rfl ?_); intro S v2 Se hv2 nv2; try simp only [Act.put, List.setIfInBounds_toArray, List.set_cons_zero, List.set_cons_succ]))
      go_ret2
      have hBl : w.heap.size ≤ S := by have := Se.out; omega
      have hR := HR1.out
      exact ⟨.inl ⟨by omega, by omega, S, fun k => k = S, rfl, ⟨⟨none, 0, none, 0, by rw [Int.toNat_natCast]; exact hv2, Sl.Own.nil _ _, Sl.Own.nil _ _, rfl, fun g hg => (by cases hg), fun g hg => (by cases hg)⟩, fun p hp => (by cases hp), fun k hk => hk ▸ hv2.lt⟩, fun k hk => hk ▸ hBl⟩, nv2.below⟩
structure FiRel (w : World) (M : List Ky) (h : List Nat) (i : Value) (wr : World) : Prop where
  ex : ∃ k : Nat, k ≤ M.length ∧ i = .int .i64 (k : Int) ∧ ∀ j y, j < k → M[j]? = some y → y.hash ≠ h
  bel : Below w.heap.size w wr
set_option maxHeartbeats 4000000 in
set_option maxRecDepth 100000 in
theorem rsfind_any (F : Nat → Prop) (S r : Nat) (pin : Option (List Nat)) (L : List Sta) (h : List Nat) (w : World) (hC : RSAt w F S r pin L) (hh : H32 h) (hl : L.length ≤ 1000) :
    Calls Tryz.prog 16 #[.pointer (some ⟨S, 0, none⟩), .agg (u8s h).toArray] w fun e w' => e = .returned (.int .i64 (posI (L.map keyN) h)) ∧ Below w.heap.size w w' := by
  obtain ⟨⟨pl, cl, p, ck, hB, _, hO, _, _, _⟩, _, _⟩ := hC
  obtain ⟨M, hM⟩ : ∃ M, M = L.map keyN := ⟨_, rfl⟩
  have hLM : L.length = M.length := by rw [hM, List.length_map]
  rw [← hM] at hO ⊢
  rw [hLM] at hB hl
  clear hM hLM
  obtain ⟨q, hq⟩ : ∃ q : Nat × Nat, q = (M.length, cl) := ⟨_, rfl⟩
  have hA := hO.at fRK
  have KH := Lib.hid hh
  have HL := Lib.hid hl
  clear hh hl hO hq q
  go_enter Tryz.func16, Tryz.ntmps16
  have bel0 : Chg (fun _ => False) w w := Chg.refl _ _
  go_wp2_with (first
    | ((with_reducible refine at_slot 3 ?_); (refine arm_box (o := ⟨some 3, _, _, _, _, _⟩) rfl _ _ rfl (u8s h) rfl ?_); intro X v1 Xe hv1 nv1; try simp only [Act.put, List.setIfInBounds_toArray, List.set_cons_zero, List.set_cons_succ]))
  have hbv1 := nv1.below
  have rrv1 : Row v1 X 32 (u8s h) := hv1
  have geX : w.heap.size ≤ X := by have := Xe.out; have := bel0.size; omega
  have lXx : w.heap.size ≤ X := by have := Xe.out; omega
  clear hv1 nv1 Xe
  have S_2 : Row v1 S 68 (ncs pl M.length cl p M.length ck r pin) := hB.old hbv1
  have A_2 : At kRK v1 p M := hA.below hbv1
  have bel_2 : Chg (fun _ => False) w v1 := bel0.old hbv1
  clear hB hA bel0 hbv1
  try simp only [Act.put]
  have h0 : FiRel v1 M h (.int .i64 0) v1 := ⟨⟨0, by omega, rfl, fun j y hj => by omega⟩, Below.refl _ _⟩
  have HBX : Hid (Below w.heap.size w v1) := Lib.hid (bel_2.below (fun k hk => hk.elim) (Nat.le_refl _))
  have HC0 := Lib.hid S_2; have HA0 := Lib.hid A_2; have HX0 := Lib.hid rrv1
  clear bel_2 S_2 A_2 rrv1 lXx geX
  generalize v1 = W0 at h0 HBX HC0 HA0 HX0 ⊢
  go_loopw [5] (fun i wr => FiRel W0 M h i wr) (fun i _ => M.length - (intOf i).toNat)
  case atStart => exact h0
  case round =>
    clear h0
    obtain ⟨⟨k, hk, rfl, hne⟩, bel⟩ := hrel
    have hCr := HC0.out.old bel; have hXr := HX0.out.old bel; have hAr := HA0.out.below bel
    have hL := HL.out
    by_cases hlt : k < M.length
    · obtain ⟨x, g, o, hx, kx, hp, hg, hrx⟩ := hAr.get hlt
      subst hp
      have KX : Hid (H32 x.hash) := Lib.hid kx.hash; have HNE := Lib.hid hne; have HX1 := Lib.hid hx; have BEL := Lib.hid bel
      have ik : (k : Int) < (M.length : Int) := by omega
      have k100 : k < 1000 := by omega
      have d1 : decide ((k : Int) < (M.length : Int)) = true := decide_eq_true ik
      have hrh : wr.rangeAt g (o + k * 65 + 33) (u8s x.hash) := key_hash kx hrx
      have hc0 := hCr.cell (i := 1) rfl
      clear hne hx kx bel hAr hrx hL
      have bel0 : Chg (fun _ => False) wr wr := Chg.refl _ _
      by_cases he : x.hash = h
      · skip
        have de : decide (x.hash = h) = true := decide_eq_true he
        go_wp2_with (first
          | ((with_reducible refine at_slot 12 ?_); (refine arm_want (.bool true) 12 rfl (by kernel_rfl) (cmp_lss _ _ _ _ rfl .i64 ((k : Int)) ((M.length : Int)) rfl rfl true (d1) _) ?_); try simp only [Act.put, List.setIfInBounds_toArray, List.set_cons_zero, List.set_cons_succ]))
        refine wp_region_held (S := fun w' => Row w' S 68 (ncs pl M.length cl (some ⟨g, o, none⟩) M.length ck r pin) ∧ Row w' X 32 (u8s h) ∧ w'.rangeAt g (o + k * 65 + 33) (u8s x.hash) ∧ True) (by kernel_rfl) ?_
        change wpAnyH _ _ _ _ _ _ _ _ wr.drew
        have hd201 : Below wr.heap.size wr wr.drew := (Below.refl _ _).drew
        have S_202 : Row wr.drew S 68 (ncs pl M.length cl (some ⟨g, o, none⟩) M.length ck r pin) := hCr.old hd201
        have X_202 : Row wr.drew X 32 (u8s h) := hXr.old hd201
        have D_202 : wr.drew.rangeAt g (o + k * 65 + 33) (u8s x.hash) := range_u8 hrh KX.out hd201
        have bel_202 : Chg (fun _ => False) wr wr.drew := bel0.old hd201
        clear hCr hXr hrh bel0 hd201
        generalize wr.drew = yz201 at S_202 X_202 D_202 bel_202 ⊢
        refine h_take 0 (.pointer (some ⟨S, 0, none⟩)) rfl 15 rfl (by kernel_rfl) (by kernel_rfl) (by kernel_rfl) (by kernel_rfl) (fun _ _ _ h => h) (fun w' _ => by kernel_rfl) ⟨S_202, X_202, D_202, trivial⟩ ?_
        simp only [Act.put, List.setIfInBounds_toArray, List.set_cons_zero, List.set_cons_succ]
        refine h_take 1 (.pointer (some ⟨S, 0, none⟩)) rfl 16 rfl (by kernel_rfl) (by kernel_rfl) (by kernel_rfl) (by kernel_rfl) (fun _ _ _ h => h) (fun w' _ => by kernel_rfl) ⟨S_202, X_202, D_202, trivial⟩ ?_
        simp only [Act.put, List.setIfInBounds_toArray, List.set_cons_zero, List.set_cons_succ]
        refine h_take 2 (.pointer (some ⟨S, 1, none⟩)) rfl 17 rfl (by kernel_rfl) (by kernel_rfl) (by kernel_rfl) (by kernel_rfl) (fun _ _ _ h => h) (fun w' _ => by kernel_rfl) ⟨S_202, X_202, D_202, trivial⟩ ?_
        simp only [Act.put, List.setIfInBounds_toArray, List.set_cons_zero, List.set_cons_succ]
        refine h_take 3 (.slice (some ⟨g, o, none⟩) M.length ck) rfl 18 rfl (by kernel_rfl) (by kernel_rfl) (by kernel_rfl) (by kernel_rfl) (fun _ _ _ h => h) (fun w' hw => run_op_load1 _ _ rfl (.slice 84) fRK.und rfl ⟨S, 1, none⟩ rfl (.slice (some ⟨g, o, none⟩) M.length ck) (hw.1.cell (i := 1) rfl)) ⟨S_202, X_202, D_202, trivial⟩ ?_
        simp only [Act.put, List.setIfInBounds_toArray, List.set_cons_zero, List.set_cons_succ]
        refine h_take 4 (.int .i64 (k : Int)) rfl 19 rfl (by kernel_rfl) (by kernel_rfl) (by kernel_rfl) (by kernel_rfl) (fun _ _ _ h => h) (fun w' _ => by kernel_rfl) ⟨S_202, X_202, D_202, trivial⟩ ?_
        simp only [Act.put, List.setIfInBounds_toArray, List.set_cons_zero, List.set_cons_succ]
        refine h_take 5 (.pointer (some ⟨g, o + k * 65, none⟩)) rfl 20 rfl (by kernel_rfl) (by kernel_rfl) (by kernel_rfl) (by kernel_rfl) (fun _ _ _ h => h) (fun w' _ => Sl.run_op_index fRK _ _ rfl g o _ _ rfl .i64 _ rfl k rfl (hlt) w') ⟨S_202, X_202, D_202, trivial⟩ ?_
        simp only [Act.put, List.setIfInBounds_toArray, List.set_cons_zero, List.set_cons_succ]
        refine h_take 6 (.pointer (some ⟨g, o + k * 65 + 33, none⟩)) rfl 21 rfl (by kernel_rfl) (by kernel_rfl) (by kernel_rfl) (by kernel_rfl) (fun _ _ _ h => h) (fun w' _ => by kernel_rfl) ⟨S_202, X_202, D_202, trivial⟩ ?_
        simp only [Act.put, List.setIfInBounds_toArray, List.set_cons_zero, List.set_cons_succ]
        refine h_take 7 (.agg (u8s x.hash).toArray) rfl 22 rfl (by kernel_rfl) (by kernel_rfl) (by kernel_rfl) (by kernel_rfl) (fun _ _ _ h => h) (fun w' hw => run_op_load _ _ rfl g (o + k * 65 + 33) rfl (u8s x.hash) hw.2.2.1 (szH KX.out)) ⟨S_202, X_202, D_202, trivial⟩ ?_
        simp only [Act.put, List.setIfInBounds_toArray, List.set_cons_zero, List.set_cons_succ]
        refine h_take 8 (.agg (u8s h).toArray) rfl 23 rfl (by kernel_rfl) (by kernel_rfl) (by kernel_rfl) (by kernel_rfl) (fun _ _ _ h => h) (fun w' hw => run_op_load _ _ rfl X (0) rfl (u8s h) (((Has.refl _)).range hw.2.1) ((szH KH.out))) ⟨S_202, X_202, D_202, trivial⟩ ?_
        simp only [Act.put, List.setIfInBounds_toArray, List.set_cons_zero, List.set_cons_succ]
        refine h_take 9 (.bool true) rfl 24 rfl (by kernel_rfl) (by kernel_rfl) (by kernel_rfl) (by kernel_rfl) (fun _ _ _ h => h) (fun w' _ => run_op_eqlV _ _ _ rfl x.hash h KX.out KH.out rfl rfl true de w') ⟨S_202, X_202, D_202, trivial⟩ ?_
        simp only [Act.put, List.setIfInBounds_toArray, List.set_cons_zero, List.set_cons_succ]
        refine wpAnyH_done (by kernel_rfl) ?_ _
        go_wp2_with fail
        go_ret
        have hgv : posI M h = (k : Int) := by unfold posI; rw [pos_at HX1.out he HNE.out]
        exact ⟨by rw [hgv]; rfl, HBX.out.trans ((BEL.out.trans ((bel_202.below (n := wr.heap.size) (fun k hk => hk.elim) (Nat.le_refl _)).mono BEL.out.size)).mono HBX.out.size)⟩
      · skip
        have de : decide (x.hash = h) = false := decide_eq_false he
        go_wp2_with (first
          | ((with_reducible refine at_slot 12 ?_); (refine arm_want (.bool true) 12 rfl (by kernel_rfl) (cmp_lss _ _ _ _ rfl .i64 ((k : Int)) ((M.length : Int)) rfl rfl true (d1) _) ?_); try simp only [Act.put, List.setIfInBounds_toArray, List.set_cons_zero, List.set_cons_succ]))
        refine wp_region_held (S := fun w' => Row w' S 68 (ncs pl M.length cl (some ⟨g, o, none⟩) M.length ck r pin) ∧ Row w' X 32 (u8s h) ∧ w'.rangeAt g (o + k * 65 + 33) (u8s x.hash) ∧ True) (by kernel_rfl) ?_
        change wpAnyH _ _ _ _ _ _ _ _ wr.drew
        have hd201 : Below wr.heap.size wr wr.drew := (Below.refl _ _).drew
        have S_202 : Row wr.drew S 68 (ncs pl M.length cl (some ⟨g, o, none⟩) M.length ck r pin) := hCr.old hd201
        have X_202 : Row wr.drew X 32 (u8s h) := hXr.old hd201
        have D_202 : wr.drew.rangeAt g (o + k * 65 + 33) (u8s x.hash) := range_u8 hrh KX.out hd201
        have bel_202 : Chg (fun _ => False) wr wr.drew := bel0.old hd201
        clear hCr hXr hrh bel0 hd201
        generalize wr.drew = yz201 at S_202 X_202 D_202 bel_202 ⊢
        refine h_take 0 (.pointer (some ⟨S, 0, none⟩)) rfl 15 rfl (by kernel_rfl) (by kernel_rfl) (by kernel_rfl) (by kernel_rfl) (fun _ _ _ h => h) (fun w' _ => by kernel_rfl) ⟨S_202, X_202, D_202, trivial⟩ ?_
        simp only [Act.put, List.setIfInBounds_toArray, List.set_cons_zero, List.set_cons_succ]
        refine h_take 1 (.pointer (some ⟨S, 0, none⟩)) rfl 16 rfl (by kernel_rfl) (by kernel_rfl) (by kernel_rfl) (by kernel_rfl) (fun _ _ _ h => h) (fun w' _ => by kernel_rfl) ⟨S_202, X_202, D_202, trivial⟩ ?_
        simp only [Act.put, List.setIfInBounds_toArray, List.set_cons_zero, List.set_cons_succ]
        refine h_take 2 (.pointer (some ⟨S, 1, none⟩)) rfl 17 rfl (by kernel_rfl) (by kernel_rfl) (by kernel_rfl) (by kernel_rfl) (fun _ _ _ h => h) (fun w' _ => by kernel_rfl) ⟨S_202, X_202, D_202, trivial⟩ ?_
        simp only [Act.put, List.setIfInBounds_toArray, List.set_cons_zero, List.set_cons_succ]
        refine h_take 3 (.slice (some ⟨g, o, none⟩) M.length ck) rfl 18 rfl (by kernel_rfl) (by kernel_rfl) (by kernel_rfl) (by kernel_rfl) (fun _ _ _ h => h) (fun w' hw => run_op_load1 _ _ rfl (.slice 84) fRK.und rfl ⟨S, 1, none⟩ rfl (.slice (some ⟨g, o, none⟩) M.length ck) (hw.1.cell (i := 1) rfl)) ⟨S_202, X_202, D_202, trivial⟩ ?_
        simp only [Act.put, List.setIfInBounds_toArray, List.set_cons_zero, List.set_cons_succ]
        refine h_take 4 (.int .i64 (k : Int)) rfl 19 rfl (by kernel_rfl) (by kernel_rfl) (by kernel_rfl) (by kernel_rfl) (fun _ _ _ h => h) (fun w' _ => by kernel_rfl) ⟨S_202, X_202, D_202, trivial⟩ ?_
        simp only [Act.put, List.setIfInBounds_toArray, List.set_cons_zero, List.set_cons_succ]
        refine h_take 5 (.pointer (some ⟨g, o + k * 65, none⟩)) rfl 20 rfl (by kernel_rfl) (by kernel_rfl) (by kernel_rfl) (by kernel_rfl) (fun _ _ _ h => h) (fun w' _ => Sl.run_op_index fRK _ _ rfl g o _ _ rfl .i64 _ rfl k rfl (hlt) w') ⟨S_202, X_202, D_202, trivial⟩ ?_
        simp only [Act.put, List.setIfInBounds_toArray, List.set_cons_zero, List.set_cons_succ]
        refine h_take 6 (.pointer (some ⟨g, o + k * 65 + 33, none⟩)) rfl 21 rfl (by kernel_rfl) (by kernel_rfl) (by kernel_rfl) (by kernel_rfl) (fun _ _ _ h => h) (fun w' _ => by kernel_rfl) ⟨S_202, X_202, D_202, trivial⟩ ?_
        simp only [Act.put, List.setIfInBounds_toArray, List.set_cons_zero, List.set_cons_succ]
        refine h_take 7 (.agg (u8s x.hash).toArray) rfl 22 rfl (by kernel_rfl) (by kernel_rfl) (by kernel_rfl) (by kernel_rfl) (fun _ _ _ h => h) (fun w' hw => run_op_load _ _ rfl g (o + k * 65 + 33) rfl (u8s x.hash) hw.2.2.1 (szH KX.out)) ⟨S_202, X_202, D_202, trivial⟩ ?_
        simp only [Act.put, List.setIfInBounds_toArray, List.set_cons_zero, List.set_cons_succ]
        refine h_take 8 (.agg (u8s h).toArray) rfl 23 rfl (by kernel_rfl) (by kernel_rfl) (by kernel_rfl) (by kernel_rfl) (fun _ _ _ h => h) (fun w' hw => run_op_load _ _ rfl X (0) rfl (u8s h) (((Has.refl _)).range hw.2.1) ((szH KH.out))) ⟨S_202, X_202, D_202, trivial⟩ ?_
        simp only [Act.put, List.setIfInBounds_toArray, List.set_cons_zero, List.set_cons_succ]
        refine h_take 9 (.bool false) rfl 24 rfl (by kernel_rfl) (by kernel_rfl) (by kernel_rfl) (by kernel_rfl) (fun _ _ _ h => h) (fun w' _ => run_op_eqlV _ _ _ rfl x.hash h KX.out KH.out rfl rfl false de w') ⟨S_202, X_202, D_202, trivial⟩ ?_
        simp only [Act.put, List.setIfInBounds_toArray, List.set_cons_zero, List.set_cons_succ]
        refine wpAnyH_done (by kernel_rfl) ?_ _
        go_wp2_with fail
        go_roundw
        case rel => exact ⟨⟨k + 1, by omega, by go_num, fun j y hj hy => by
          rcases Nat.lt_or_ge j k with q | q
          · exact HNE.out j y q hy
          · obtain rfl : j = k := by omega
            rw [HX1.out] at hy
            cases hy
            exact he⟩, BEL.out.trans ((bel_202.below (n := wr.heap.size) (fun k hk => hk.elim) (Nat.le_refl _)).mono BEL.out.size)⟩
        case measure => simp [intOf]; omega
    · obtain rfl : k = M.length := by omega
      have HG : Hid (posI M h = -1) := Lib.hid (by unfold posI; rw [pos_no hne])
      have BEL := Lib.hid bel
      have hc0 := hCr.cell (i := 1) rfl
      clear hne bel hAr hL
      go_wp2_with fail
      go_ret
      exact ⟨by rw [HG.out]; rfl, HBX.out.trans (BEL.out.mono HBX.out.size)⟩
end Go.Proofs.YtnjmocobncncdaaGreatDoor.So

/-
  The contract of the document's PinOf, of layer 19. Over this seat's translation.
-/
namespace Go.Proofs.YtnjmocobncncdaaGreatDoor.So
open Go.ChangeShapes Go.WideShapes Go.ChangeAt Go.RowKit Go.Proofs.YtnjmocobncncdaaGreatDoor.Mem Go.Proofs.YtnjmocobncncdaaGreatDoor.Bt
open Go.Proofs.YtnjmocobncncdaaGreatDoor.Ep (H32 zh zh_ok Has h_len szH zH fitH allH one_app)
open Go.Proofs.YtnjmocobncncdaaGreatDoor.Sl (Kind At bk)
open Go.Proofs.YtnjmocobncncdaaGreatDoor.Sa (Sta scs digS)
open Go.Proofs.YtnjmocobncncdaaGreatDoor.Od (Ky kcs kRK fRK keyN kcs_len k33)
open Go.Proofs.YtnjmocobncncdaaGreatDoor.Lk (kR fR)
set_option linter.unusedVariables false
set_option linter.unusedSimpArgs false

theorem sz_boo : (Tryz.prog.info? 4).map (·.size) = some 1 := by kernel_rfl
theorem lt_ncs3 (pl : Option Addr) (n cl : Nat) (pk : Option Addr) (m ck r : Nat) (pin : Option (List Nat)) : 3 < (ncs pl n cl pk m ck r pin).length := by simp [ncs]
theorem fit_ncs4 {pl : Option Addr} {n cl : Nat} {pk : Option Addr} {m ck r : Nat} {pin : Option (List Nat)} {h : List Nat} (hp : H32 (pin.getD zh)) (hh : H32 h) : 4 + (u8s h).length ≤ ((ncs pl n cl pk m ck r pin).set 3 (.bool true)).length := by
  rw [List.length_set, h_len hh, ncs, List.length_append, h_len hp]
  exact Nat.le_refl _
theorem pin_set {pl : Option Addr} {n cl : Nat} {pk : Option Addr} {m ck r : Nat} {pin : Option (List Nat)} {h : List Nat} (hp : H32 (pin.getD zh)) (hh : H32 h) : lay ((ncs pl n cl pk m ck r pin).set 3 (.bool true)) 4 (u8s h) = ncs pl n cl pk m ck r (some h) := by
  show lay ([.slice pl n cl, .slice pk m ck, .int .i64 (r : Int), .bool true] ++ u8s (pin.getD zh)) (4 + 0) (u8s h) = _
  rw [lay_skip (m := 4) _ _ _ 0 rfl, lay_all _ _ (by rw [h_len hp, h_len hh])]
  rfl
def pinN (M : List Ky) (h : List Nat) (pin : Option (List Nat)) : Option (List Nat) := if (posK M h).isSome then some h else pin
structure RPinPost (w : World) (F : Nat → Prop) (S r : Nat) (pin : Option (List Nat)) (L : List Sta) (h : List Nat) (e : Ending) (w' : World) : Prop where
  ret : e = .returned (.bool (posK (L.map keyN) h).isSome)
  at_ : RSAt w' F S r (pinN (L.map keyN) h pin) L
  chg : Chg F w w'
set_option maxHeartbeats 4000000 in
set_option maxRecDepth 100000 in
theorem rspin_any (F : Nat → Prop) (S r : Nat) (pin : Option (List Nat)) (L : List Sta) (h : List Nat) (w : World) (hC : RSAt w F S r pin L) (hh : H32 h) (hl : L.length ≤ 1000) :
    Calls Tryz.prog 12 #[.pointer (some ⟨S, 0, none⟩), .agg (u8s h).toArray] w (RPinPost w F S r pin L h) := by
  have CF := Lib.hid (fun w0 q => rsfind_any F S r pin L h w0 q hh hl)
  have KH := Lib.hid hh
  have HC := Lib.hid hC
  clear hC hh hl
  obtain ⟨M, hM⟩ : ∃ M, M = L.map keyN := ⟨_, rfl⟩
  have HM := Lib.hid hM
  rw [← hM] at CF
  clear hM
  cases hp : posK M h with
  | none =>
    have HP : Hid (posI M h = -1) := Lib.hid (by unfold posI; rw [hp])
    have HPN : Hid (posK M h = none) := Lib.hid hp
    clear hp
    go_enter Tryz.func12, Tryz.ntmps12
    have bel0 : Chg (fun _ => False) w w := Chg.refl _ _
    go_wp2_with (first
      | ((with_reducible refine at_slot 3 ?_); (refine arm_box (o := ⟨some 3, _, _, _, _, _⟩) rfl _ _ rfl (u8s h) rfl ?_); intro X v1 Xe hv1 nv1; try simp only [Act.put, List.setIfInBounds_toArray, List.set_cons_zero, List.set_cons_succ])
      | ((with_reducible refine at_slot 6 ?_); (refine arm_want (.agg (u8s h).toArray) 6 rfl (by kernel_rfl) (run_op_load _ _ rfl X 0 rfl (u8s h) ((Has.refl _).range hv1) ((szH KH.out))) ?_); try simp only [Act.put, List.setIfInBounds_toArray, List.set_cons_zero, List.set_cons_succ]))
    have hbv1 := nv1.below
    have rrv1 : Row v1 X 32 (u8s h) := hv1
    have geX : w.heap.size ≤ X := by have := Xe.out; have := bel0.size; omega
    have lXx : w.heap.size ≤ X := by have := Xe.out; omega
    clear hv1 nv1 Xe
    have bel_2 : Chg (fun _ => False) w v1 := bel0.old hbv1
    clear bel0 hbv1
    have HB1 := Lib.hid (bel_2.below (fun k hk => hk.elim) (Nat.le_refl w.heap.size))
    have hC1 := HC.out.old HB1.out
    refine (CF.out _ hC1).mono ?_
    rintro e y ⟨rfl, hB⟩
    rw [HP.out]
    have hC2 := hC1.old hB
    clear hC1
    have X_3 : Row y X 32 (u8s h) := rrv1.old hB
    have bel_3 : Chg (fun _ => False) w y := bel_2.old hB
    clear rrv1 bel_2 hB
    go_wp2_with (first
      | ((with_reducible refine at_slot 8 ?_); (refine arm_want (.bool true) 8 rfl (by kernel_rfl) (cmp_lss _ _ _ _ rfl .i64 (-1) (0) rfl rfl true (rfl) _) ?_); try simp only [Act.put, List.setIfInBounds_toArray, List.set_cons_zero, List.set_cons_succ]))
    go_ret
    exact ⟨by rw [← HM.out, HPN.out]; rfl, by unfold pinN; rw [← HM.out, HPN.out]; exact hC2, bel_3.more (fun k hk => hk.elim)⟩
  | some i =>
    have HP : Hid (posI M h = (i : Int)) := Lib.hid (by unfold posI; rw [hp])
    have HPN : Hid (posK M h = some i) := Lib.hid hp
    have dn : decide ((i : Int) < 0) = false := decide_eq_false (by omega)
    clear hp
    go_enter Tryz.func12, Tryz.ntmps12
    have bel0 : Chg (fun _ => False) w w := Chg.refl _ _
    go_wp2_with (first
      | ((with_reducible refine at_slot 3 ?_); (refine arm_box (o := ⟨some 3, _, _, _, _, _⟩) rfl _ _ rfl (u8s h) rfl ?_); intro X v1 Xe hv1 nv1; try simp only [Act.put, List.setIfInBounds_toArray, List.set_cons_zero, List.set_cons_succ])
      | ((with_reducible refine at_slot 6 ?_); (refine arm_want (.agg (u8s h).toArray) 6 rfl (by kernel_rfl) (run_op_load _ _ rfl X 0 rfl (u8s h) ((Has.refl _).range hv1) ((szH KH.out))) ?_); try simp only [Act.put, List.setIfInBounds_toArray, List.set_cons_zero, List.set_cons_succ]))
    have hbv1 := nv1.below
    have rrv1 : Row v1 X 32 (u8s h) := hv1
    have geX : w.heap.size ≤ X := by have := Xe.out; have := bel0.size; omega
    have lXx : w.heap.size ≤ X := by have := Xe.out; omega
    clear hv1 nv1 Xe
    have bel_2 : Chg (fun _ => False) w v1 := bel0.old hbv1
    clear bel0 hbv1
    have HB1 := Lib.hid (bel_2.below (fun k hk => hk.elim) (Nat.le_refl w.heap.size))
    have hC1 := HC.out.old HB1.out
    refine (CF.out _ hC1).mono ?_
    rintro e y ⟨rfl, hB⟩
    rw [HP.out]
    have hC2 := hC1.old hB
    clear hC1
    have X_3 : Row y X 32 (u8s h) := rrv1.old hB
    have bel_3 : Chg (fun _ => False) w y := bel_2.old hB
    clear rrv1 bel_2 hB
    obtain ⟨⟨pl, cl, pk, ck, hB0, hOL, hOK, fS, fl, fk⟩, hpo, hli⟩ := hC2
    have PO := Lib.hid (pin_ok hpo)
    clear hpo
    have nXS : X ≠ S := X_3.ne_type hB0 (by decide)
    have nOL := hOL.ne hB0 (by decide)
    have nOK := hOK.ne hB0 (by decide)
    go_wp2_with (first
      | ((with_reducible refine at_slot 8 ?_); (refine arm_want (.bool false) 8 rfl (by kernel_rfl) (cmp_lss _ _ _ _ rfl .i64 ((i : Int)) (0) rfl rfl false (dn) _) ?_); try simp only [Act.put, List.setIfInBounds_toArray, List.set_cons_zero, List.set_cons_succ])
      | ((with_reducible refine arm_storeV (o := ⟨none, _, _, _, _, _⟩) rfl _ _ _ rfl S (3) rfl (.bool true) rfl (one_boo _) sz_boo _ _ (hB0) (lt_ncs3 _ _ _ _ _ _ _ _) ?_); intro yA hyA oyA syA; try simp only [Act.put, List.setIfInBounds_toArray, List.set_cons_zero, List.set_cons_succ]; refine fpause ?_; try simp only [Act.put, List.setIfInBounds_toArray, List.set_cons_zero, List.set_cons_succ]))
    have belF : Chg F w y := bel_3.more (fun k hk => hk.elim)
    clear bel_3 syA
    have X_4 : Row yA X 32 (u8s h) := X_3.only oyA nXS
    have OL_4 : Sl.Own kR yA 0 pl cl L := hOL.only oyA nOL
    have OK_4 : Sl.Own kRK yA 0 pk ck (L.map keyN) := hOK.only oyA nOK
    have S_4 : Row yA S 68 ((ncs pl L.length cl pk L.length ck r pin).set 3 (.bool true)) := hyA
    have bel_4 : Chg F w yA := belF.only oyA (fS)
    clear X_3 hOL hOK hB0 belF oyA
    refine fgo ?_
    go_wp2_with (first
      | ((with_reducible refine at_slot 13 ?_); (refine arm_want (.agg (u8s h).toArray) 13 rfl (by kernel_rfl) (run_op_load _ _ rfl X 0 rfl (u8s h) ((Has.refl _).range X_4) ((szH KH.out))) ?_); try simp only [Act.put, List.setIfInBounds_toArray, List.set_cons_zero, List.set_cons_succ])
      | ((with_reducible refine arm_store (o := ⟨none, _, _, _, _, _⟩) rfl _ _ _ rfl S 4 rfl (u8s h) rfl _ _ S_4 (fit_ncs4 PO.out KH.out) (u8s_one _) (szH KH.out) ?_); intro yB hyB oyB syB; try simp only [Act.put, List.setIfInBounds_toArray, List.set_cons_zero, List.set_cons_succ]; refine fpause ?_; try simp only [Act.put, List.setIfInBounds_toArray, List.set_cons_zero, List.set_cons_succ]))
    rw [pin_set PO.out KH.out] at hyB
    clear syB
    have X_5 : Row yB X 32 (u8s h) := X_4.only oyB nXS
    have OL_5 : Sl.Own kR yB 0 pl cl L := OL_4.only oyB nOL
    have OK_5 : Sl.Own kRK yB 0 pk ck (L.map keyN) := OK_4.only oyB nOK
    have S_5 : Row yB S 68 (ncs pl L.length cl pk L.length ck r (some h)) := hyB
    have bel_5 : Chg F w yB := bel_4.only oyB (fS)
    clear X_4 OL_4 OK_4 S_4 bel_4 oyB
    refine fgo ?_
    go_wp2_with fail
    go_ret
    exact ⟨by rw [← HM.out, HPN.out]; rfl, by unfold pinN; rw [← HM.out, HPN.out]; exact ⟨⟨pl, cl, pk, ck, S_5, OL_5, OK_5, fS, fl, fk⟩, fun p e => (by cases e; exact KH.out), HC.out.lies.mono bel_5.size⟩, bel_5⟩
end Go.Proofs.YtnjmocobncncdaaGreatDoor.So

/-
  The contract of the document's Same, of layer 19. Over this seat's translation.
-/
namespace Go.Proofs.YtnjmocobncncdaaGreatDoor.So
open Go.ChangeShapes Go.WideShapes Go.ChangeAt Go.RowKit Go.Proofs.YtnjmocobncncdaaGreatDoor.Mem Go.Proofs.YtnjmocobncncdaaGreatDoor.Bt
open Go.Proofs.YtnjmocobncncdaaGreatDoor.Ep (H32 zh zh_ok Has h_len szH zH fitH allH one_app)
open Go.Proofs.YtnjmocobncncdaaGreatDoor.Sl (Kind At bk)
open Go.Proofs.YtnjmocobncncdaaGreatDoor.Sa (Sta scs digS)
open Go.Proofs.YtnjmocobncncdaaGreatDoor.Od (Ky kcs kRK fRK keyN kcs_len k33)
open Go.Proofs.YtnjmocobncncdaaGreatDoor.Lk (kR fR)
set_option linter.unusedVariables false
set_option linter.unusedSimpArgs false

set_option maxRecDepth 100000 in
theorem run_op_neqRK {o : Oper} {a : Act} (x y : Operand) (t' : TypeId) (ho : o.op = .binOp .neq 84 x y t') (c d : Ky) (kc : c.Ok) (kd : d.Ok) (hx : a.eval x = .agg (kcs c).toArray) (hy : a.eval y = .agg (kcs d).toArray) (v b : Bool) (hb : b = true ↔ c = d) (hv : (!b) = v) (w : World) : (execOp a.eval o).run Tryz.prog w = .ok (.value (.bool v)) w :=
  hv ▸ run_op_neqF _ x y t' ho 3 (by omega) (.struct (Tryz.prog.fieldsOf 84)) (by kernel_rfl) rfl (by kernel_rfl) (kcs c) (kcs d) hx hy (Od.fit_rkey 0 kc) (Od.fit_rkey 0 kd) b (Od.key_iff kc kd hb) w
theorem range_k {w w' : World} {g o : Nat} {x : Ky} (h : w.rangeAt g o (kcs x)) (hb : Below w.heap.size w w') : w'.rangeAt g o (kcs x) :=
  range_block h (hb.block g (range_lt h (fun e => by cases e)))
structure SmRel (w : World) (l m : List Ky) (i : Value) (wr : World) : Prop where
  ex : ∃ k : Nat, k ≤ l.length ∧ i = .int .i64 (k : Int) ∧ l.take k = m.take k
  bel : Below w.heap.size w wr
structure RSamePost (w : World) (l m : List Ky) (e : Ending) (w' : World) : Prop where
  ret : ∃ b, e = .returned (.bool b) ∧ (b = true ↔ l = m)
  bel : Below w.heap.size w w'
set_option maxHeartbeats 4000000 in
set_option maxRecDepth 100000 in
theorem rssame_any (l m : List Ky) (p q : Option Addr) (cp cq : Nat) (w : World) (hp : At kRK w p l) (hq : At kRK w q m) (hl : l.length ≤ 1000000) :
    Calls Tryz.prog 19 #[.slice p l.length cp, .slice q m.length cq] w (RSamePost w l m) := by
  by_cases hlen : l.length = m.length
  · have HP0 := Lib.hid hp; have HQ0 := Lib.hid hq; have HL := Lib.hid hl; have HLM := Lib.hid hlen
    have d1 : decide ((l.length : Int) = (m.length : Int)) = !false := decide_eq_true (by rw [hlen])
    clear hp hq hl hlen
    go_enter Tryz.func19, Tryz.ntmps19
    go_wp2_with (first
      | ((with_reducible refine at_slot 10 ?_); (refine arm_want (.bool false) 10 rfl (by kernel_rfl) (cmp_neq _ _ .i64 (by kernel_rfl) _ _ rfl .i64 (l.length : Int) (m.length : Int) rfl rfl false (d1) _) ?_); try simp only [Act.put, List.setIfInBounds_toArray, List.set_cons_zero, List.set_cons_succ]))
    have h0 : SmRel w l m (.int .i64 0) w := ⟨⟨0, by omega, rfl, rfl⟩, Below.refl _ _⟩
    go_loopw [5] (fun i wr => SmRel w l m i wr) (fun i _ => l.length - (intOf i).toNat)
    case atStart => exact h0
    case round =>
      clear h0
      obtain ⟨⟨k, hk, rfl, ht⟩, bel⟩ := hrel
      have hL := HL.out
      have hLM := HLM.out
      by_cases hlt : k < l.length
      · obtain ⟨x, g, o, hx, kx, e1, hg, hrx⟩ := (HP0.out.below bel).get hlt
        obtain ⟨y, g2, o2, hy, ky, e2, hg2, hry⟩ := (HQ0.out.below bel).get (show k < m.length by omega)
        subst e1 e2
        have hlt2 : k < m.length := by omega
        have ik : (k : Int) < (l.length : Int) := by omega
        have k100 : k < 1000000 := by omega
        have hrx2 : wr.rangeAt g (o + k * 65) (kcs x) := hrx
        have hry2 : wr.rangeAt g2 (o2 + k * 65) (kcs y) := hry
        have KX := Lib.hid kx; have KY := Lib.hid ky; have HX := Lib.hid hx; have HY := Lib.hid hy; have HTT := Lib.hid ht
        have BEL := Lib.hid bel
        clear hx hy kx ky bel hrx hry hL hLM ht
        have bel0 : Chg (fun _ => False) wr wr := Chg.refl _ _
        by_cases he : x = y
        · skip
          have HE := Lib.hid he
          go_wp2_with fail
          refine wp_region_held (S := fun w' => w'.rangeAt g (o + k * 65) (kcs x) ∧ w'.rangeAt g2 (o2 + k * 65) (kcs y) ∧ True) (by kernel_rfl) ?_
          change wpAnyH _ _ _ _ _ _ _ _ wr.drew
          have hd1 : Below wr.heap.size wr wr.drew := (Below.refl _ _).drew
          have D_2 : wr.drew.rangeAt g (o + k * 65) (kcs x) := range_k hrx2 hd1
          have E_2 : wr.drew.rangeAt g2 (o2 + k * 65) (kcs y) := range_k hry2 hd1
          have bel_2 : Chg (fun _ => False) wr wr.drew := bel0.old hd1
          clear hrx2 hry2 bel0 hd1
          generalize wr.drew = yz1 at D_2 E_2 bel_2 ⊢
          refine h_take 0 (.slice (some ⟨g, o, none⟩) l.length cp) rfl 17 rfl (by kernel_rfl) (by kernel_rfl) (by kernel_rfl) (by kernel_rfl) (fun _ _ _ h => h) (fun w' _ => by kernel_rfl) ⟨D_2, E_2, trivial⟩ ?_
          simp only [Act.put, List.setIfInBounds_toArray, List.set_cons_zero, List.set_cons_succ]
          refine h_take 1 (.int .i64 (k : Int)) rfl 18 rfl (by kernel_rfl) (by kernel_rfl) (by kernel_rfl) (by kernel_rfl) (fun _ _ _ h => h) (fun w' _ => by kernel_rfl) ⟨D_2, E_2, trivial⟩ ?_
          simp only [Act.put, List.setIfInBounds_toArray, List.set_cons_zero, List.set_cons_succ]
          refine h_take 2 (.pointer (some ⟨g, o + k * 65, none⟩)) rfl 19 rfl (by kernel_rfl) (by kernel_rfl) (by kernel_rfl) (by kernel_rfl) (fun _ _ _ h => h) (fun w' _ => Sl.run_op_index fRK _ _ rfl g o _ _ rfl .i64 _ rfl k rfl (hlt) w') ⟨D_2, E_2, trivial⟩ ?_
          simp only [Act.put, List.setIfInBounds_toArray, List.set_cons_zero, List.set_cons_succ]
          refine h_take 3 (.agg (kcs x).toArray) rfl 20 rfl (by kernel_rfl) (by kernel_rfl) (by kernel_rfl) (by kernel_rfl) (fun _ _ _ h => h) (fun w' hw => run_op_load _ _ rfl g (o + k * 65) rfl (kcs x) hw.1 (Od.sz_rkey KX.out)) ⟨D_2, E_2, trivial⟩ ?_
          simp only [Act.put, List.setIfInBounds_toArray, List.set_cons_zero, List.set_cons_succ]
          refine h_take 4 (.slice (some ⟨g2, o2, none⟩) m.length cq) rfl 21 rfl (by kernel_rfl) (by kernel_rfl) (by kernel_rfl) (by kernel_rfl) (fun _ _ _ h => h) (fun w' _ => by kernel_rfl) ⟨D_2, E_2, trivial⟩ ?_
          simp only [Act.put, List.setIfInBounds_toArray, List.set_cons_zero, List.set_cons_succ]
          refine h_take 5 (.int .i64 (k : Int)) rfl 22 rfl (by kernel_rfl) (by kernel_rfl) (by kernel_rfl) (by kernel_rfl) (fun _ _ _ h => h) (fun w' _ => by kernel_rfl) ⟨D_2, E_2, trivial⟩ ?_
          simp only [Act.put, List.setIfInBounds_toArray, List.set_cons_zero, List.set_cons_succ]
          refine h_take 6 (.pointer (some ⟨g2, o2 + k * 65, none⟩)) rfl 23 rfl (by kernel_rfl) (by kernel_rfl) (by kernel_rfl) (by kernel_rfl) (fun _ _ _ h => h) (fun w' _ => Sl.run_op_index fRK _ _ rfl g2 o2 _ _ rfl .i64 _ rfl k rfl (hlt2) w') ⟨D_2, E_2, trivial⟩ ?_
          simp only [Act.put, List.setIfInBounds_toArray, List.set_cons_zero, List.set_cons_succ]
          refine h_take 7 (.agg (kcs y).toArray) rfl 24 rfl (by kernel_rfl) (by kernel_rfl) (by kernel_rfl) (by kernel_rfl) (fun _ _ _ h => h) (fun w' hw => run_op_load _ _ rfl g2 (o2 + k * 65) rfl (kcs y) hw.2.1 (Od.sz_rkey KY.out)) ⟨D_2, E_2, trivial⟩ ?_
          simp only [Act.put, List.setIfInBounds_toArray, List.set_cons_zero, List.set_cons_succ]
          refine h_take 8 (.bool false) rfl 25 rfl (by kernel_rfl) (by kernel_rfl) (by kernel_rfl) (by kernel_rfl) (fun _ _ _ h => h) (fun w' _ => run_op_neqRK _ _ _ rfl x y KX.out KY.out rfl rfl false true ⟨fun _ => HE.out, fun _ => rfl⟩ rfl w') ⟨D_2, E_2, trivial⟩ ?_
          simp only [Act.put, List.setIfInBounds_toArray, List.set_cons_zero, List.set_cons_succ]
          refine wpAnyH_done (by kernel_rfl) ?_ _
          go_wp2_with fail
          go_roundw
          case rel => exact ⟨⟨k + 1, by omega, by go_num, by rw [List.take_add_one, List.take_add_one, HTT.out, HX.out, HY.out, he]⟩, BEL.out.trans ((bel_2.below (n := wr.heap.size) (fun k hk => hk.elim) (Nat.le_refl _)).mono BEL.out.size)⟩
          case measure => simp [intOf]; omega
        · skip
          have HE := Lib.hid he
          go_wp2_with fail
          refine wp_region_held (S := fun w' => w'.rangeAt g (o + k * 65) (kcs x) ∧ w'.rangeAt g2 (o2 + k * 65) (kcs y) ∧ True) (by kernel_rfl) ?_
          change wpAnyH _ _ _ _ _ _ _ _ wr.drew
          have hd1 : Below wr.heap.size wr wr.drew := (Below.refl _ _).drew
          have D_2 : wr.drew.rangeAt g (o + k * 65) (kcs x) := range_k hrx2 hd1
          have E_2 : wr.drew.rangeAt g2 (o2 + k * 65) (kcs y) := range_k hry2 hd1
          have bel_2 : Chg (fun _ => False) wr wr.drew := bel0.old hd1
          clear hrx2 hry2 bel0 hd1
          generalize wr.drew = yz1 at D_2 E_2 bel_2 ⊢
          refine h_take 0 (.slice (some ⟨g, o, none⟩) l.length cp) rfl 17 rfl (by kernel_rfl) (by kernel_rfl) (by kernel_rfl) (by kernel_rfl) (fun _ _ _ h => h) (fun w' _ => by kernel_rfl) ⟨D_2, E_2, trivial⟩ ?_
          simp only [Act.put, List.setIfInBounds_toArray, List.set_cons_zero, List.set_cons_succ]
          refine h_take 1 (.int .i64 (k : Int)) rfl 18 rfl (by kernel_rfl) (by kernel_rfl) (by kernel_rfl) (by kernel_rfl) (fun _ _ _ h => h) (fun w' _ => by kernel_rfl) ⟨D_2, E_2, trivial⟩ ?_
          simp only [Act.put, List.setIfInBounds_toArray, List.set_cons_zero, List.set_cons_succ]
          refine h_take 2 (.pointer (some ⟨g, o + k * 65, none⟩)) rfl 19 rfl (by kernel_rfl) (by kernel_rfl) (by kernel_rfl) (by kernel_rfl) (fun _ _ _ h => h) (fun w' _ => Sl.run_op_index fRK _ _ rfl g o _ _ rfl .i64 _ rfl k rfl (hlt) w') ⟨D_2, E_2, trivial⟩ ?_
          simp only [Act.put, List.setIfInBounds_toArray, List.set_cons_zero, List.set_cons_succ]
          refine h_take 3 (.agg (kcs x).toArray) rfl 20 rfl (by kernel_rfl) (by kernel_rfl) (by kernel_rfl) (by kernel_rfl) (fun _ _ _ h => h) (fun w' hw => run_op_load _ _ rfl g (o + k * 65) rfl (kcs x) hw.1 (Od.sz_rkey KX.out)) ⟨D_2, E_2, trivial⟩ ?_
          simp only [Act.put, List.setIfInBounds_toArray, List.set_cons_zero, List.set_cons_succ]
          refine h_take 4 (.slice (some ⟨g2, o2, none⟩) m.length cq) rfl 21 rfl (by kernel_rfl) (by kernel_rfl) (by kernel_rfl) (by kernel_rfl) (fun _ _ _ h => h) (fun w' _ => by kernel_rfl) ⟨D_2, E_2, trivial⟩ ?_
          simp only [Act.put, List.setIfInBounds_toArray, List.set_cons_zero, List.set_cons_succ]
          refine h_take 5 (.int .i64 (k : Int)) rfl 22 rfl (by kernel_rfl) (by kernel_rfl) (by kernel_rfl) (by kernel_rfl) (fun _ _ _ h => h) (fun w' _ => by kernel_rfl) ⟨D_2, E_2, trivial⟩ ?_
          simp only [Act.put, List.setIfInBounds_toArray, List.set_cons_zero, List.set_cons_succ]
          refine h_take 6 (.pointer (some ⟨g2, o2 + k * 65, none⟩)) rfl 23 rfl (by kernel_rfl) (by kernel_rfl) (by kernel_rfl) (by kernel_rfl) (fun _ _ _ h => h) (fun w' _ => Sl.run_op_index fRK _ _ rfl g2 o2 _ _ rfl .i64 _ rfl k rfl (hlt2) w') ⟨D_2, E_2, trivial⟩ ?_
          simp only [Act.put, List.setIfInBounds_toArray, List.set_cons_zero, List.set_cons_succ]
          refine h_take 7 (.agg (kcs y).toArray) rfl 24 rfl (by kernel_rfl) (by kernel_rfl) (by kernel_rfl) (by kernel_rfl) (fun _ _ _ h => h) (fun w' hw => run_op_load _ _ rfl g2 (o2 + k * 65) rfl (kcs y) hw.2.1 (Od.sz_rkey KY.out)) ⟨D_2, E_2, trivial⟩ ?_
          simp only [Act.put, List.setIfInBounds_toArray, List.set_cons_zero, List.set_cons_succ]
          refine h_take 8 (.bool true) rfl 25 rfl (by kernel_rfl) (by kernel_rfl) (by kernel_rfl) (by kernel_rfl) (fun _ _ _ h => h) (fun w' _ => run_op_neqRK _ _ _ rfl x y KX.out KY.out rfl rfl true false ⟨fun q => (nomatch q), fun q => absurd q HE.out⟩ rfl w') ⟨D_2, E_2, trivial⟩ ?_
          simp only [Act.put, List.setIfInBounds_toArray, List.set_cons_zero, List.set_cons_succ]
          refine wpAnyH_done (by kernel_rfl) ?_ _
          go_wp2_with fail
          go_ret
          have hne : ¬ l = m := fun e => he (by have h1 := HX.out; rw [e, HY.out] at h1; exact (Option.some.inj h1).symm)
          exact ⟨⟨false, rfl, fun q => (by cases q), fun q => absurd q hne⟩, BEL.out.trans ((bel_2.below (n := wr.heap.size) (fun k hk => hk.elim) (Nat.le_refl _)).mono BEL.out.size)⟩
      · obtain rfl : k = l.length := by omega
        have he : l = m := by rw [List.take_length, hLM, List.take_length] at ht; exact ht
        have HE := Lib.hid he; have HB := Lib.hid bel
        clear he ht bel hL hLM
        go_wp2_with fail
        go_ret
        exact ⟨⟨true, rfl, fun _ => HE.out, fun _ => rfl⟩, HB.out⟩
  · have d1 : decide ((l.length : Int) = (m.length : Int)) = !true := decide_eq_false (by omega)
    have HE : Hid (¬ l = m) := Lib.hid (fun e => hlen (by rw [e]))
    clear hp hq hl hlen
    go_enter Tryz.func19, Tryz.ntmps19
    go_wp2_with (first
      | ((with_reducible refine at_slot 10 ?_); (refine arm_want (.bool true) 10 rfl (by kernel_rfl) (cmp_neq _ _ .i64 (by kernel_rfl) _ _ rfl .i64 (l.length : Int) (m.length : Int) rfl rfl true (d1) _) ?_); try simp only [Act.put, List.setIfInBounds_toArray, List.set_cons_zero, List.set_cons_succ]))
    go_ret
    exact ⟨⟨false, rfl, fun q => (by cases q), fun q => absurd q HE.out⟩, Below.refl _ _⟩
end Go.Proofs.YtnjmocobncncdaaGreatDoor.So
