/-
  The contracts of package state's through and (*State).digests: round by round, the address of a digest, and those of the numbers behind it. Over this seat's translation.
-/
import Derived.Test.YtnjmocobncncdaaGreatDoorStaPtrs
import Derived.Test.YtnjmocobncncdaaGreatDoorRange
namespace Go.Proofs.YtnjmocobncncdaaGreatDoor.Sa
open Go.ChangeShapes Go.WideShapes Go.ChangeAt Go.RowKit Go.Proofs.YtnjmocobncncdaaGreatDoor.Mem Go.Proofs.YtnjmocobncncdaaGreatDoor.Bt Go.Proofs.YtnjmocobncncdaaGreatDoor.Rf
set_option linter.unusedVariables false
set_option linter.unusedSimpArgs false

/-- At which field a round begins; how many numbers it has. -/
def gf : Nat → Nat
  | 0 => 0
  | 1 => 1
  | 2 => 2
  | 3 => 12
  | 4 => 13
  | 5 => 14
  | 6 => 15
  | 7 => 17
  | 8 => 18
  | 9 => 19
  | 10 => 20
  | _ => 22
def gn : Nat → Nat
  | 2 => 9
  | 6 => 1
  | 10 => 1
  | _ => 0
theorem cases11 {k : Nat} (h : k < 11) : k = 0 ∨ k = 1 ∨ k = 2 ∨ k = 3 ∨ k = 4 ∨ k = 5 ∨ k = 6 ∨ k = 7 ∨ k = 8 ∨ k = 9 ∨ k = 10 := by omega
theorem g_next {k : Nat} (h : k < 11) : gf (k + 1) = gf k + 1 + gn k := by
  rcases cases11 h with rfl | rfl | rfl | rfl | rfl | rfl | rfl | rfl | rfl | rfl | rfl <;> rfl
theorem g_hash {k : Nat} (h : k < 11) : isH (gf k) = true ∧ gf k < 22 := by
  rcases cases11 h with rfl | rfl | rfl | rfl | rfl | rfl | rfl | rfl | rfl | rfl | rfl <;> decide
theorem g_num {k j : Nat} (h : k < 11) (hj : j < gn k) : isH (gf k + 1 + j) = false ∧ gf k + 1 + j < 22 := by
  rcases cases11 h with rfl | rfl | rfl | rfl | rfl | rfl | rfl | rfl | rfl | rfl | rfl
  case inr.inr.inl =>
    have hj : j < 9 := hj
    have e : j = 0 ∨ j = 1 ∨ j = 2 ∨ j = 3 ∨ j = 4 ∨ j = 5 ∨ j = 6 ∨ j = 7 ∨ j = 8 := by omega
    rcases e with rfl | rfl | rfl | rfl | rfl | rfl | rfl | rfl | rfl <;> decide
  case inr.inr.inr.inr.inr.inr.inl =>
    have hj : j < 1 := hj
    obtain rfl : j = 0 := by omega
    decide
  case inr.inr.inr.inr.inr.inr.inr.inr.inr.inr =>
    have hj : j < 1 := hj
    obtain rfl : j = 0 := by omega
    decide
  all_goals exact absurd (show j < 0 from hj) (by omega)
theorem off_num {k : Nat} (h : k < 11) : ∀ j, j ≤ gn k → off (gf k + 1 + j) = off (gf k) + 32 + j
  | 0, _ => by
    show off (gf k) + fsz (gf k) = _
    unfold fsz
    rw [if_pos (g_hash h).1]
  | j + 1, hj => by
    show off (gf k + 1 + j) + fsz (gf k + 1 + j) = _
    unfold fsz
    rw [if_neg (by rw [(g_num h (j := j) (by omega)).1]; decide), off_num h j (by omega)]
    rfl
/-- What a round is handed. -/
structure Handed (B k : Nat) (x y : Value) (W : World) : Prop where
  ex : x = .pointer (some ⟨B, off (gf k), none⟩) ∧ ∃ p cap, y = .slice p (gn k) cap ∧ Pt W p (ptrs B (off (gf k) + 32) (gn k))
theorem Pt.alike {w w' : World} {p : Option Addr} {vs : List Value} (h : Pt w p vs) (ha : Rf.Alike w w') : Pt w' p vs := ⟨fun hne => by
  obtain ⟨g, cur, e, hh, ht⟩ := h.at_ hne
  exact ⟨g, cur, e, ha.same _ _ hh rfl, ht⟩⟩
theorem Pt.nil (w : World) (p : Option Addr) : Pt w p [] := ⟨fun h => absurd rfl h⟩
theorem Pt.row {w : World} {b : Nat} {vs : List Value} (h : Row w b 118 vs) : Pt w (some ⟨b, 0, none⟩) vs := ⟨fun _ => ⟨b, vs.toArray, rfl, h, by simp⟩⟩
theorem Handed.alike {B k : Nat} {x y : Value} {w w' : World} (h : Handed B k x y w) (ha : Rf.Alike w w') : Handed B k x y w' := by
  obtain ⟨e, p, cap, e2, hp⟩ := h.ex
  exact ⟨e, p, cap, e2, hp.alike ha⟩
theorem one_ptr (b i : Nat) (w : World) : (Instr.buildSlice 117 1 #[(0, .pointer (some ⟨b, i, none⟩))]).run Tryz.prog w = .ok (.slice (some ⟨w.heap.size, 0, none⟩) 1 1) (w.alloc (.cells (ptrs b i 1).toArray 118)) := by kernel_rfl
set_option maxHeartbeats 4000000 in
set_option maxRecDepth 100000 in
/-- An epoch's data, gone through. -/
theorem through_any (l : Nat) (K : Nat → World → Prop) (n₀ B o kb : Nat) (hk : kb + 4 ≤ 11) (ho : ∀ j, j < 4 → off (gf (kb + j)) = o + 32 * j) (hn : ∀ j, j < 3 → gn (kb + j) = 0) (h3 : gn (kb + 3) = 1)
    (hgrow : ∀ k A C, K k A → Below A.heap.size A C → K k C)
    (hY : ∀ k x y A, k < 11 → K k A → Handed B k x y A → YieldAt Fence.wide 0 Tryz.prog l #[x, y] A fun e C => e = .returned (.bool true) ∧ K (k + 1) C ∧ n₀ ≤ C.heap.size)
    (W : World) (h : K kb W) :
    Calls Tryz.prog 66 #[.pointer (some ⟨B, o, none⟩), .func (.yield l) #[] #[]] W fun e C => e = .returned (.bool true) ∧ K (kb + 4) C := by
  have H0 : ∀ j A, j < 3 → Handed B (kb + j) (.pointer (some ⟨B, o + 32 * j, none⟩)) (.slice none 0 0) A := fun j A hj => ⟨by rw [ho j (by omega)], none, 0, by rw [hn j hj], by rw [hn j hj]; exact Pt.nil _ _⟩
  have H3 : ∀ c A, Row A c 118 (ptrs B (o + 128) 1) → Handed B (kb + 3) (.pointer (some ⟨B, o + 96, none⟩)) (.slice (some ⟨c, 0, none⟩) 1 1) A := fun c A hr => ⟨by rw [ho 3 (by omega)], some ⟨c, 0, none⟩, 1, by rw [h3], by rw [h3, ho 3 (by omega)]; exact Pt.row hr⟩
  clear ho hn h3
  go_enter Tryz.func66, Tryz.ntmps66
  go_wp2_with fail
  refine wpIn_wide.1 (wpIn_region_any (n := 0) (by kernel_rfl) ?_)
  change wpAnyIn _ _ _ _ _ _ _ _ _ W.drew
  have h0 : K kb W.drew := hgrow _ _ _ h ((Below.refl _ _).drew)
  generalize W.drew = y0 at h0 ⊢
  clear h
  refine i_take 0 (.func (.yield l) #[] #[]) rfl 5 rfl (by kernel_rfl) (by kernel_rfl) (by kernel_rfl) (by kernel_rfl) (fun _ _ _ h => h) (fun w' => by kernel_rfl) (fun _ => rfl) ?_
  simp only [Act.put, List.setIfInBounds_toArray, List.set_cons_zero, List.set_cons_succ]
  refine i_take 1 (.pointer (some ⟨B, o, none⟩)) rfl 6 rfl (by kernel_rfl) (by kernel_rfl) (by kernel_rfl) (by kernel_rfl) (fun _ _ _ h => h) (fun w' => by kernel_rfl) (fun _ => rfl) ?_
  simp only [Act.put, List.setIfInBounds_toArray, List.set_cons_zero, List.set_cons_succ]
  refine i_take 2 (.pointer (some ⟨B, o, none⟩)) rfl 7 rfl (by kernel_rfl) (by kernel_rfl) (by kernel_rfl) (by kernel_rfl) (fun _ _ _ h => h) (fun w' => by kernel_rfl) (fun _ => rfl) ?_
  simp only [Act.put, List.setIfInBounds_toArray, List.set_cons_zero, List.set_cons_succ]
  refine i_take 3 (.pointer (some ⟨B, o, none⟩)) rfl 8 rfl (by kernel_rfl) (by kernel_rfl) (by kernel_rfl) (by kernel_rfl) (fun _ _ _ h => h) (fun w' => by kernel_rfl) (fun _ => rfl) ?_
  simp only [Act.put, List.setIfInBounds_toArray, List.set_cons_zero, List.set_cons_succ]
  refine i_one (i := 4) (by kernel_rfl) (i_round rfl 9 rfl (by kernel_rfl) _ _ _ rfl l rfl _ (by simp only [List.map_toArray, List.map_cons, List.map_nil]; rfl) (hY (kb) _ _ _ (by omega) h0 (H0 0 _ (by omega))) ?_)
  rintro y1 ⟨h1, z1⟩
  simp only [Act.put, List.setIfInBounds_toArray, List.set_cons_zero, List.set_cons_succ]
  refine i_take 5 (.bool true) rfl 10 rfl (by kernel_rfl) (by kernel_rfl) (by kernel_rfl) (by kernel_rfl) (fun _ _ _ h => h) (fun w' => by kernel_rfl) (fun _ => rfl) ?_
  simp only [Act.put, List.setIfInBounds_toArray, List.set_cons_zero, List.set_cons_succ]
  refine i_take 6 (.func (.yield l) #[] #[]) rfl 11 rfl (by kernel_rfl) (by kernel_rfl) (by kernel_rfl) (by kernel_rfl) (fun _ _ _ h => h) (fun w' => by kernel_rfl) (fun _ => rfl) ?_
  simp only [Act.put, List.setIfInBounds_toArray, List.set_cons_zero, List.set_cons_succ]
  refine i_take 7 (.pointer (some ⟨B, o, none⟩)) rfl 12 rfl (by kernel_rfl) (by kernel_rfl) (by kernel_rfl) (by kernel_rfl) (fun _ _ _ h => h) (fun w' => by kernel_rfl) (fun _ => rfl) ?_
  simp only [Act.put, List.setIfInBounds_toArray, List.set_cons_zero, List.set_cons_succ]
  refine i_take 8 (.pointer (some ⟨B, o, none⟩)) rfl 13 rfl (by kernel_rfl) (by kernel_rfl) (by kernel_rfl) (by kernel_rfl) (fun _ _ _ h => h) (fun w' => by kernel_rfl) (fun _ => rfl) ?_
  simp only [Act.put, List.setIfInBounds_toArray, List.set_cons_zero, List.set_cons_succ]
  refine i_take 9 (.pointer (some ⟨B, o + 32, none⟩)) rfl 14 rfl (by kernel_rfl) (by kernel_rfl) (by kernel_rfl) (by kernel_rfl) (fun _ _ _ h => h) (fun w' => by kernel_rfl) (fun _ => rfl) ?_
  simp only [Act.put, List.setIfInBounds_toArray, List.set_cons_zero, List.set_cons_succ]
  refine i_one (i := 10) (by kernel_rfl) (i_round rfl 15 rfl (by kernel_rfl) _ _ _ rfl l rfl _ (by simp only [List.map_toArray, List.map_cons, List.map_nil]; rfl) (hY (kb + 1) _ _ _ (by omega) h1 (H0 1 _ (by omega))) ?_)
  rintro y2 ⟨h2, z2⟩
  simp only [Act.put, List.setIfInBounds_toArray, List.set_cons_zero, List.set_cons_succ]
  refine i_take 11 (.bool true) rfl 16 rfl (by kernel_rfl) (by kernel_rfl) (by kernel_rfl) (by kernel_rfl) (fun _ _ _ h => h) (fun w' => by kernel_rfl) (fun _ => rfl) ?_
  simp only [Act.put, List.setIfInBounds_toArray, List.set_cons_zero, List.set_cons_succ]
  refine i_take 12 (.bool true) rfl 17 rfl (by kernel_rfl) (by kernel_rfl) (by kernel_rfl) (by kernel_rfl) (fun _ _ _ h => h) (fun w' => by kernel_rfl) (fun _ => rfl) ?_
  simp only [Act.put, List.setIfInBounds_toArray, List.set_cons_zero, List.set_cons_succ]
  refine i_take 13 (.func (.yield l) #[] #[]) rfl 18 rfl (by kernel_rfl) (by kernel_rfl) (by kernel_rfl) (by kernel_rfl) (fun _ _ _ h => h) (fun w' => by kernel_rfl) (fun _ => rfl) ?_
  simp only [Act.put, List.setIfInBounds_toArray, List.set_cons_zero, List.set_cons_succ]
  refine i_take 14 (.pointer (some ⟨B, o, none⟩)) rfl 19 rfl (by kernel_rfl) (by kernel_rfl) (by kernel_rfl) (by kernel_rfl) (fun _ _ _ h => h) (fun w' => by kernel_rfl) (fun _ => rfl) ?_
  simp only [Act.put, List.setIfInBounds_toArray, List.set_cons_zero, List.set_cons_succ]
  refine i_take 15 (.pointer (some ⟨B, o, none⟩)) rfl 20 rfl (by kernel_rfl) (by kernel_rfl) (by kernel_rfl) (by kernel_rfl) (fun _ _ _ h => h) (fun w' => by kernel_rfl) (fun _ => rfl) ?_
  simp only [Act.put, List.setIfInBounds_toArray, List.set_cons_zero, List.set_cons_succ]
  refine i_take 16 (.pointer (some ⟨B, o + 64, none⟩)) rfl 21 rfl (by kernel_rfl) (by kernel_rfl) (by kernel_rfl) (by kernel_rfl) (fun _ _ _ h => h) (fun w' => by kernel_rfl) (fun _ => rfl) ?_
  simp only [Act.put, List.setIfInBounds_toArray, List.set_cons_zero, List.set_cons_succ]
  refine i_one (i := 17) (by kernel_rfl) (i_round rfl 22 rfl (by kernel_rfl) _ _ _ rfl l rfl _ (by simp only [List.map_toArray, List.map_cons, List.map_nil]; rfl) (hY (kb + 2) _ _ _ (by omega) h2 (H0 2 _ (by omega))) ?_)
  rintro y3 ⟨h3, z3⟩
  simp only [Act.put, List.setIfInBounds_toArray, List.set_cons_zero, List.set_cons_succ]
  refine i_take 18 (.bool true) rfl 23 rfl (by kernel_rfl) (by kernel_rfl) (by kernel_rfl) (by kernel_rfl) (fun _ _ _ h => h) (fun w' => by kernel_rfl) (fun _ => rfl) ?_
  simp only [Act.put, List.setIfInBounds_toArray, List.set_cons_zero, List.set_cons_succ]
  refine i_take 19 (.bool true) rfl 24 rfl (by kernel_rfl) (by kernel_rfl) (by kernel_rfl) (by kernel_rfl) (fun _ _ _ h => h) (fun w' => by kernel_rfl) (fun _ => rfl) ?_
  simp only [Act.put, List.setIfInBounds_toArray, List.set_cons_zero, List.set_cons_succ]
  refine i_take 20 (.func (.yield l) #[] #[]) rfl 25 rfl (by kernel_rfl) (by kernel_rfl) (by kernel_rfl) (by kernel_rfl) (fun _ _ _ h => h) (fun w' => by kernel_rfl) (fun _ => rfl) ?_
  simp only [Act.put, List.setIfInBounds_toArray, List.set_cons_zero, List.set_cons_succ]
  refine i_take 21 (.pointer (some ⟨B, o, none⟩)) rfl 26 rfl (by kernel_rfl) (by kernel_rfl) (by kernel_rfl) (by kernel_rfl) (fun _ _ _ h => h) (fun w' => by kernel_rfl) (fun _ => rfl) ?_
  simp only [Act.put, List.setIfInBounds_toArray, List.set_cons_zero, List.set_cons_succ]
  refine i_take 22 (.pointer (some ⟨B, o, none⟩)) rfl 27 rfl (by kernel_rfl) (by kernel_rfl) (by kernel_rfl) (by kernel_rfl) (fun _ _ _ h => h) (fun w' => by kernel_rfl) (fun _ => rfl) ?_
  simp only [Act.put, List.setIfInBounds_toArray, List.set_cons_zero, List.set_cons_succ]
  refine i_take 23 (.pointer (some ⟨B, o + 96, none⟩)) rfl 28 rfl (by kernel_rfl) (by kernel_rfl) (by kernel_rfl) (by kernel_rfl) (fun _ _ _ h => h) (fun w' => by kernel_rfl) (fun _ => rfl) ?_
  simp only [Act.put, List.setIfInBounds_toArray, List.set_cons_zero, List.set_cons_succ]
  refine i_take 24 (.pointer (some ⟨B, o, none⟩)) rfl 29 rfl (by kernel_rfl) (by kernel_rfl) (by kernel_rfl) (by kernel_rfl) (fun _ _ _ h => h) (fun w' => by kernel_rfl) (fun _ => rfl) ?_
  simp only [Act.put, List.setIfInBounds_toArray, List.set_cons_zero, List.set_cons_succ]
  refine i_take 25 (.pointer (some ⟨B, o, none⟩)) rfl 30 rfl (by kernel_rfl) (by kernel_rfl) (by kernel_rfl) (by kernel_rfl) (fun _ _ _ h => h) (fun w' => by kernel_rfl) (fun _ => rfl) ?_
  simp only [Act.put, List.setIfInBounds_toArray, List.set_cons_zero, List.set_cons_succ]
  refine i_take 26 (.pointer (some ⟨B, o + 128, none⟩)) rfl 31 rfl (by kernel_rfl) (by kernel_rfl) (by kernel_rfl) (by kernel_rfl) (fun _ _ _ h => h) (fun w' => by kernel_rfl) (fun _ => rfl) ?_
  simp only [Act.put, List.setIfInBounds_toArray, List.set_cons_zero, List.set_cons_succ]
  refine i_one (i := 27) (by kernel_rfl) (i_value _ rfl 32 rfl (by kernel_rfl) (run_op_ptrs 1 _ rfl #[(0, .pointer (some ⟨B, o + 128, none⟩))] (by simp only [List.map_toArray, List.map_cons, List.map_nil]; rfl) (ptrs B (o + 128) 1) (one_ptr B (o + 128)) _) ?_)
  have hN := new_alloc y3 (.cells (ptrs B (o + 128) 1).toArray 118)
  have hR : Row (y3.alloc (.cells (ptrs B (o + 128) 1).toArray 118)) y3.heap.size 118 (ptrs B (o + 128) 1) := heap_alloc_new _ _
  generalize y3.alloc (.cells (ptrs B (o + 128) 1).toArray 118) = yn at hN hR ⊢
  have hn3 : K (kb + 3) yn := hgrow _ _ _ h3 hN.below
  generalize y3.heap.size = c at hR ⊢
  clear hN
  simp only [Act.put, List.setIfInBounds_toArray, List.set_cons_zero, List.set_cons_succ]
  refine i_one (i := 28) (by kernel_rfl) (i_round rfl 33 rfl (by kernel_rfl) _ _ _ rfl l rfl _ (by simp only [List.map_toArray, List.map_cons, List.map_nil]; rfl) (hY (kb + 3) _ _ _ (by omega) hn3 (H3 _ _ hR)) ?_)
  rintro y4 ⟨h4, z4⟩
  simp only [Act.put, List.setIfInBounds_toArray, List.set_cons_zero, List.set_cons_succ]
  refine i_take 29 (.bool true) rfl 34 rfl (by kernel_rfl) (by kernel_rfl) (by kernel_rfl) (by kernel_rfl) (fun _ _ _ h => h) (fun w' => by kernel_rfl) (fun _ => rfl) ?_
  simp only [Act.put, List.setIfInBounds_toArray, List.set_cons_zero, List.set_cons_succ]
  refine i_take 30 (.bool true) rfl 4 rfl (by kernel_rfl) (by kernel_rfl) (by kernel_rfl) (by kernel_rfl) (fun _ _ _ h => h) (fun w' => by kernel_rfl) (fun _ => rfl) ?_
  simp only [Act.put, List.setIfInBounds_toArray, List.set_cons_zero, List.set_cons_succ]
  refine wpAnyIn_done (by kernel_rfl) ?_ _
  go_wp2_with fail
  go_ret
  exact ⟨rfl, h4⟩
theorem thr_lo : (∀ j, j < 4 → off (gf (3 + j)) = 105 + 32 * j) ∧ (∀ j, j < 3 → gn (3 + j) = 0) ∧ gn (3 + 3) = 1 := by
  refine ⟨fun j hj => ?_, fun j hj => ?_, rfl⟩
  · have e : j = 0 ∨ j = 1 ∨ j = 2 ∨ j = 3 := by omega
    rcases e with rfl | rfl | rfl | rfl <;> rfl
  · have e : j = 0 ∨ j = 1 ∨ j = 2 := by omega
    rcases e with rfl | rfl | rfl <;> rfl
theorem thr_hi : (∀ j, j < 4 → off (gf (7 + j)) = 234 + 32 * j) ∧ (∀ j, j < 3 → gn (7 + j) = 0) ∧ gn (7 + 3) = 1 := by
  refine ⟨fun j hj => ?_, fun j hj => ?_, rfl⟩
  · have e : j = 0 ∨ j = 1 ∨ j = 2 ∨ j = 3 := by omega
    rcases e with rfl | rfl | rfl | rfl <;> rfl
  · have e : j = 0 ∨ j = 1 ∨ j = 2 := by omega
    rcases e with rfl | rfl | rfl <;> rfl
theorem hand0 (B : Nat) (A : World) : Handed B 0 (.pointer (some ⟨B, 0, none⟩)) (.slice none 0 0) A := ⟨rfl, none, 0, rfl, Pt.nil _ _⟩
theorem hand1 (B : Nat) (A : World) : Handed B 1 (.pointer (some ⟨B, 32, none⟩)) (.slice none 0 0) A := ⟨rfl, none, 0, rfl, Pt.nil _ _⟩
theorem hand2 (B base cap : Nat) (p : Option Addr) (A : World) (h : OP A base p cap (ptrs B 96 9)) : Handed B 2 (.pointer (some ⟨B, 64, none⟩)) (.slice p 9 cap) A := ⟨rfl, p, cap, rfl, h.pt⟩
set_option maxHeartbeats 4000000 in
set_option maxRecDepth 100000 in
/-- All of a state, gone through. -/
theorem digests_any (B : Nat) (w : World) : Rounds Tryz.prog 46 #[.pointer (some ⟨B, 0, none⟩)] 11 (Handed B) w := by
  intro l K W hW hgrow hY h
  have CL : ∀ W', K 3 W' → Calls Tryz.prog 66 #[.pointer (some ⟨B, 105, none⟩), .func (.yield l) #[] #[]] W' fun e C => e = .returned (.bool true) ∧ K 7 C := fun W' h' => through_any l K w.heap.size B 105 3 (by omega) thr_lo.1 thr_lo.2.1 thr_lo.2.2 hgrow hY W' h'
  have CH : ∀ W', K 7 W' → Calls Tryz.prog 66 #[.pointer (some ⟨B, 234, none⟩), .func (.yield l) #[] #[]] W' fun e C => e = .returned (.bool true) ∧ K 11 C := fun W' h' => through_any l K w.heap.size B 234 7 (by omega) thr_hi.1 thr_hi.2.1 thr_hi.2.2 hgrow hY W' h'
  show Calls Tryz.prog 46 #[.pointer (some ⟨B, 0, none⟩), .func (.yield l) #[] #[]] W _
  go_enter Tryz.func46, Tryz.ntmps46
  refine wp_seq ?_
  refine wpIn_wide.1 (wpIn_region_any (n := 0) (by kernel_rfl) ?_)
  change wpAnyIn _ _ _ _ _ _ _ _ _ W.drew
  have h0 : K 0 W.drew := hgrow _ _ _ h ((Below.refl _ _).drew)
  generalize W.drew = y0 at h0 ⊢
  clear h hW
  refine i_take 0 (.func (.yield l) #[] #[]) rfl 4 rfl (by kernel_rfl) (by kernel_rfl) (by kernel_rfl) (by kernel_rfl) (fun _ _ _ h => h) (fun w' => by kernel_rfl) (fun _ => rfl) ?_
  simp only [Act.put, List.setIfInBounds_toArray, List.set_cons_zero, List.set_cons_succ]
  refine i_take 1 (.pointer (some ⟨B, 0, none⟩)) rfl 5 rfl (by kernel_rfl) (by kernel_rfl) (by kernel_rfl) (by kernel_rfl) (fun _ _ _ h => h) (fun w' => by kernel_rfl) (fun _ => rfl) ?_
  simp only [Act.put, List.setIfInBounds_toArray, List.set_cons_zero, List.set_cons_succ]
  refine i_take 2 (.pointer (some ⟨B, 0, none⟩)) rfl 6 rfl (by kernel_rfl) (by kernel_rfl) (by kernel_rfl) (by kernel_rfl) (fun _ _ _ h => h) (fun w' => by kernel_rfl) (fun _ => rfl) ?_
  simp only [Act.put, List.setIfInBounds_toArray, List.set_cons_zero, List.set_cons_succ]
  refine i_take 3 (.pointer (some ⟨B, 0, none⟩)) rfl 7 rfl (by kernel_rfl) (by kernel_rfl) (by kernel_rfl) (by kernel_rfl) (fun _ _ _ h => h) (fun w' => by kernel_rfl) (fun _ => rfl) ?_
  simp only [Act.put, List.setIfInBounds_toArray, List.set_cons_zero, List.set_cons_succ]
  refine i_one (i := 4) (by kernel_rfl) (i_round rfl 8 rfl (by kernel_rfl) _ _ _ rfl l rfl _ (by simp only [List.map_toArray, List.map_cons, List.map_nil]; rfl) (hY (0) _ _ _ (by omega) h0 (hand0 _ _)) ?_)
  rintro y1 ⟨h1, z1⟩
  simp only [Act.put, List.setIfInBounds_toArray, List.set_cons_zero, List.set_cons_succ]
  refine i_take 5 (.bool true) rfl 9 rfl (by kernel_rfl) (by kernel_rfl) (by kernel_rfl) (by kernel_rfl) (fun _ _ _ h => h) (fun w' => by kernel_rfl) (fun _ => rfl) ?_
  simp only [Act.put, List.setIfInBounds_toArray, List.set_cons_zero, List.set_cons_succ]
  refine i_take 6 (.func (.yield l) #[] #[]) rfl 10 rfl (by kernel_rfl) (by kernel_rfl) (by kernel_rfl) (by kernel_rfl) (fun _ _ _ h => h) (fun w' => by kernel_rfl) (fun _ => rfl) ?_
  simp only [Act.put, List.setIfInBounds_toArray, List.set_cons_zero, List.set_cons_succ]
  refine i_take 7 (.pointer (some ⟨B, 0, none⟩)) rfl 11 rfl (by kernel_rfl) (by kernel_rfl) (by kernel_rfl) (by kernel_rfl) (fun _ _ _ h => h) (fun w' => by kernel_rfl) (fun _ => rfl) ?_
  simp only [Act.put, List.setIfInBounds_toArray, List.set_cons_zero, List.set_cons_succ]
  refine i_take 8 (.pointer (some ⟨B, 0, none⟩)) rfl 12 rfl (by kernel_rfl) (by kernel_rfl) (by kernel_rfl) (by kernel_rfl) (fun _ _ _ h => h) (fun w' => by kernel_rfl) (fun _ => rfl) ?_
  simp only [Act.put, List.setIfInBounds_toArray, List.set_cons_zero, List.set_cons_succ]
  refine i_take 9 (.pointer (some ⟨B, 32, none⟩)) rfl 13 rfl (by kernel_rfl) (by kernel_rfl) (by kernel_rfl) (by kernel_rfl) (fun _ _ _ h => h) (fun w' => by kernel_rfl) (fun _ => rfl) ?_
  simp only [Act.put, List.setIfInBounds_toArray, List.set_cons_zero, List.set_cons_succ]
  refine i_one (i := 10) (by kernel_rfl) (i_round rfl 14 rfl (by kernel_rfl) _ _ _ rfl l rfl _ (by simp only [List.map_toArray, List.map_cons, List.map_nil]; rfl) (hY (1) _ _ _ (by omega) h1 (hand1 _ _)) ?_)
  rintro y2 ⟨h2, z2⟩
  simp only [Act.put, List.setIfInBounds_toArray, List.set_cons_zero, List.set_cons_succ]
  refine i_take 11 (.bool true) rfl 15 rfl (by kernel_rfl) (by kernel_rfl) (by kernel_rfl) (by kernel_rfl) (fun _ _ _ h => h) (fun w' => by kernel_rfl) (fun _ => rfl) ?_
  simp only [Act.put, List.setIfInBounds_toArray, List.set_cons_zero, List.set_cons_succ]
  refine i_take 12 (.bool true) rfl 16 rfl (by kernel_rfl) (by kernel_rfl) (by kernel_rfl) (by kernel_rfl) (fun _ _ _ h => h) (fun w' => by kernel_rfl) (fun _ => rfl) ?_
  simp only [Act.put, List.setIfInBounds_toArray, List.set_cons_zero, List.set_cons_succ]
  refine i_take 13 (.func (.yield l) #[] #[]) rfl 17 rfl (by kernel_rfl) (by kernel_rfl) (by kernel_rfl) (by kernel_rfl) (fun _ _ _ h => h) (fun w' => by kernel_rfl) (fun _ => rfl) ?_
  simp only [Act.put, List.setIfInBounds_toArray, List.set_cons_zero, List.set_cons_succ]
  refine i_take 14 (.pointer (some ⟨B, 0, none⟩)) rfl 18 rfl (by kernel_rfl) (by kernel_rfl) (by kernel_rfl) (by kernel_rfl) (fun _ _ _ h => h) (fun w' => by kernel_rfl) (fun _ => rfl) ?_
  simp only [Act.put, List.setIfInBounds_toArray, List.set_cons_zero, List.set_cons_succ]
  refine i_take 15 (.pointer (some ⟨B, 0, none⟩)) rfl 19 rfl (by kernel_rfl) (by kernel_rfl) (by kernel_rfl) (by kernel_rfl) (fun _ _ _ h => h) (fun w' => by kernel_rfl) (fun _ => rfl) ?_
  simp only [Act.put, List.setIfInBounds_toArray, List.set_cons_zero, List.set_cons_succ]
  refine i_take 16 (.pointer (some ⟨B, 64, none⟩)) rfl 20 rfl (by kernel_rfl) (by kernel_rfl) (by kernel_rfl) (by kernel_rfl) (fun _ _ _ h => h) (fun w' => by kernel_rfl) (fun _ => rfl) ?_
  simp only [Act.put, List.setIfInBounds_toArray, List.set_cons_zero, List.set_cons_succ]
  refine i_take 17 (.pointer (some ⟨B, 0, none⟩)) rfl 21 rfl (by kernel_rfl) (by kernel_rfl) (by kernel_rfl) (by kernel_rfl) (fun _ _ _ h => h) (fun w' => by kernel_rfl) (fun _ => rfl) ?_
  simp only [Act.put, List.setIfInBounds_toArray, List.set_cons_zero, List.set_cons_succ]
  refine i_one (i := 18) (by kernel_rfl) (i_call rfl 22 rfl (by kernel_rfl) (run_op_call 65 _ _ rfl #[.pointer (some ⟨B, 0, none⟩)] (by simp only [List.map_toArray, List.map_cons, List.map_nil]; rfl) Tryz.func65 (by kernel_rfl) (by kernel_rfl) _) (numbers_any B _) ?_)
  rintro e yn ⟨⟨p, cap, rfl, hO⟩, hbn⟩
  have hn2 : K 2 yn := hgrow _ _ _ h2 hbn
  refine ⟨_, rfl, ?_⟩
  simp only [Act.put, List.setIfInBounds_toArray, List.set_cons_zero, List.set_cons_succ]
  refine i_one (i := 19) (by kernel_rfl) (i_round rfl 23 rfl (by kernel_rfl) _ _ _ rfl l rfl _ (by simp only [List.map_toArray, List.map_cons, List.map_nil]; rfl) (hY (2) _ _ _ (by omega) hn2 (hand2 _ _ _ _ _ hO)) ?_)
  rintro y3 ⟨h3, z3⟩
  simp only [Act.put, List.setIfInBounds_toArray, List.set_cons_zero, List.set_cons_succ]
  refine i_take 20 (.bool true) rfl 24 rfl (by kernel_rfl) (by kernel_rfl) (by kernel_rfl) (by kernel_rfl) (fun _ _ _ h => h) (fun w' => by kernel_rfl) (fun _ => rfl) ?_
  simp only [Act.put, List.setIfInBounds_toArray, List.set_cons_zero, List.set_cons_succ]
  refine i_take 21 (.bool true) rfl 25 rfl (by kernel_rfl) (by kernel_rfl) (by kernel_rfl) (by kernel_rfl) (fun _ _ _ h => h) (fun w' => by kernel_rfl) (fun _ => rfl) ?_
  simp only [Act.put, List.setIfInBounds_toArray, List.set_cons_zero, List.set_cons_succ]
  refine i_take 22 (.pointer (some ⟨B, 0, none⟩)) rfl 26 rfl (by kernel_rfl) (by kernel_rfl) (by kernel_rfl) (by kernel_rfl) (fun _ _ _ h => h) (fun w' => by kernel_rfl) (fun _ => rfl) ?_
  simp only [Act.put, List.setIfInBounds_toArray, List.set_cons_zero, List.set_cons_succ]
  refine i_take 23 (.pointer (some ⟨B, 0, none⟩)) rfl 27 rfl (by kernel_rfl) (by kernel_rfl) (by kernel_rfl) (by kernel_rfl) (fun _ _ _ h => h) (fun w' => by kernel_rfl) (fun _ => rfl) ?_
  simp only [Act.put, List.setIfInBounds_toArray, List.set_cons_zero, List.set_cons_succ]
  refine i_take 24 (.pointer (some ⟨B, 105, none⟩)) rfl 28 rfl (by kernel_rfl) (by kernel_rfl) (by kernel_rfl) (by kernel_rfl) (fun _ _ _ h => h) (fun w' => by kernel_rfl) (fun _ => rfl) ?_
  simp only [Act.put, List.setIfInBounds_toArray, List.set_cons_zero, List.set_cons_succ]
  refine i_take 25 (.pointer (some ⟨B, 105, none⟩)) rfl 29 rfl (by kernel_rfl) (by kernel_rfl) (by kernel_rfl) (by kernel_rfl) (fun _ _ _ h => h) (fun w' => by kernel_rfl) (fun _ => rfl) ?_
  simp only [Act.put, List.setIfInBounds_toArray, List.set_cons_zero, List.set_cons_succ]
  refine i_take 26 (.func (.yield l) #[] #[]) rfl 30 rfl (by kernel_rfl) (by kernel_rfl) (by kernel_rfl) (by kernel_rfl) (fun _ _ _ h => h) (fun w' => by kernel_rfl) (fun _ => rfl) ?_
  simp only [Act.put, List.setIfInBounds_toArray, List.set_cons_zero, List.set_cons_succ]
  refine i_one (i := 27) (by kernel_rfl) (i_call rfl 31 rfl (by kernel_rfl) (run_op_call 66 _ _ rfl #[.pointer (some ⟨B, 105, none⟩), .func (.yield l) #[] #[]] (by simp only [List.map_toArray, List.map_cons, List.map_nil]; rfl) Tryz.func66 (by kernel_rfl) (by kernel_rfl) _) (CL _ h3) ?_)
  rintro e y7 ⟨rfl, h7⟩
  refine ⟨_, rfl, ?_⟩
  simp only [Act.put, List.setIfInBounds_toArray, List.set_cons_zero, List.set_cons_succ]
  refine i_take 28 (.bool true) rfl 32 rfl (by kernel_rfl) (by kernel_rfl) (by kernel_rfl) (by kernel_rfl) (fun _ _ _ h => h) (fun w' => by kernel_rfl) (fun _ => rfl) ?_
  simp only [Act.put, List.setIfInBounds_toArray, List.set_cons_zero, List.set_cons_succ]
  refine wpAnyIn_done (by kernel_rfl) ?_ _
  go_wp2_with fail
  refine (CH _ h7).mono ?_
  rintro e y11 ⟨rfl, h11⟩
  go_wp2_with fail
  go_end0
  exact ⟨⟨_, rfl⟩, h11⟩
end Go.Proofs.YtnjmocobncncdaaGreatDoor.Sa
