/-
  Some new variables in a region that draws, in whatever order they come up. Over whatever program.
-/
import Derived.Test.YtghogoijjaiccaaMemAll
namespace Go.Proofs.Ytghogoijjaiccaa.Mem
open Go.RowKit
set_option linter.unusedVariables false

/-- Each of some, and the others. -/
def picks {α : Type} : List α → List (α × List α)
  | [] => []
  | x :: l => (x, l) :: (picks l).map fun yr => (yr.1, x :: yr.2)
theorem picks_split {α : Type} : ∀ {L : List α} {p : α} {R : List α}, (p, R) ∈ picks L → ∃ L1 L2, L = L1 ++ p :: L2 ∧ R = L1 ++ L2
  | [], _, _, h => by cases h
  | x :: l, p, R, h => by
    unfold picks at h
    rcases List.mem_cons.1 h with e | h
    · cases e
      exact ⟨[], l, rfl, rfl⟩
    · obtain ⟨⟨y, r⟩, hy, e⟩ := List.mem_map.1 h
      cases e
      obtain ⟨L1, L2, h1, h2⟩ := picks_split hy
      exact ⟨x :: L1, L2, by rw [h1]; rfl, by rw [h2]; rfl⟩
theorem picks_mem {α : Type} : ∀ {L : List α} {p : α}, p ∈ L → ∃ R, (p, R) ∈ picks L
  | x :: l, p, h => by
    unfold picks
    rcases List.mem_cons.1 h with rfl | h
    · exact ⟨l, by simp⟩
    · obtain ⟨R, hR⟩ := picks_mem h
      exact ⟨x :: R, List.mem_cons_of_mem _ (List.mem_map.2 ⟨(p, R), hR, rfl⟩)⟩
theorem foldl_late {α β : Type} (f : β → α → β) (p : α) : ∀ (L : List α) (x : β), (∀ q ∈ L, ∀ y, f (f y p) q = f (f y q) p) → L.foldl f (f x p) = f (L.foldl f x) p
  | [], _, _ => rfl
  | q :: L, x, h => by
    rw [List.foldl_cons, List.foldl_cons, h q (by simp), foldl_late f p L _ (fun r hr => h r (by simp [hr]))]
/-- In whatever order these come up, just those that haven't are ready. -/
def chkA (md : Region.Mode) (ops : Array Oper) : Nat → List (Nat × Nat) → Array Bool → Bool
  | 0, L, _ => L.isEmpty
  | n + 1, L, listed => decide (Region.ready md ops listed = L.map Prod.fst) && (picks L).all fun pr => chkA md ops n pr.2 (listed.setIfInBounds pr.1.1 true)
section
variable {P : Program} {ops : Array Oper} {Q : Exit → Act → World → Prop} {md : Region.Mode} {S : World → Prop}
def setA (l : Array Bool) (p : Nat × Nat) : Array Bool := l.setIfInBounds p.1 true
def putA (a : Act) (pb : (Nat × Nat) × Nat) : Act := a.put (some pb.1.2) (.pointer (some ⟨pb.2, 0, none⟩))
theorem h_allocsN (t : TypeId) (zs : List Value) (hz : Zero P t zs) : ∀ (n : Nat) (L : List (Nat × Nat)) (listed : Array Bool) (a : Act) (w : World) (fuel : Nat), L.length = n → chkA md ops n L listed = true →
    (∀ p ∈ L, ∃ o, ops[p.1]? = some o ∧ o.guard = none ∧ o.dst = some p.2 ∧ o.op = .alloc t) → (L.map Prod.fst).Nodup → (L.map Prod.snd).Nodup → (∀ w', Below w.heap.size w w' → S w') →
    (∀ (bs : List Nat) (w2 : World), bs.length = n → bs.Nodup → (∀ b ∈ bs, w.heap.size ≤ b ∧ Row w2 b t zs) → Below w.heap.size w w2 → wpAnyH P md ops Q S fuel (L.foldl setA listed) ((L.zip bs).foldl putA a) w2) →
    wpAnyH P md ops Q S (fuel + n) listed a w
  | 0, L, listed, a, w, fuel, hl, _, _, _, _, _, h => by
    obtain rfl := List.eq_nil_of_length_eq_zero hl
    exact h [] w rfl List.nodup_nil (by simp) (Below.refl _ _)
  | n + 1, L, listed, a, w, fuel, hl, hc, ho, hn1, hn2, hS, h => by
    unfold chkA at hc
    rw [Bool.and_eq_true, decide_eq_true_iff, List.all_eq_true] at hc
    have hne : L.map Prod.fst ≠ [] := fun e => by
      have := congrArg List.length e
      rw [List.length_map, hl] at this
      cases this
    refine wpAnyH_all hc.1 hne (fun k hk => ?_)
    obtain ⟨p, hp, rfl⟩ := List.mem_map.1 hk
    obtain ⟨R, hR⟩ := picks_mem hp
    have hcR := hc.2 _ hR
    obtain ⟨L1, L2, rfl, rfl⟩ := picks_split hR
    obtain ⟨o, h1, h2, h3, h4⟩ := ho p hp
    have m := new_alloc w (.cells zs.toArray t)
    have hr : Row (w.alloc (.cells zs.toArray t)) w.heap.size t zs := heap_alloc_new _ _
    refine wpOp_value h1 h2 (run_op_alloc t h4 zs hz) ⟨hS _ m.below, ?_⟩
    rw [h3]
    have hlen : (L1 ++ L2).length = n := by rw [List.length_append] at hl ⊢; rw [List.length_cons] at hl; omega
    have q1 : ∀ q ∈ L1, q.1 ≠ p.1 ∧ q.2 ≠ p.2 := fun q hq => by
      rw [List.map_append, List.map_cons, List.nodup_append] at hn1 hn2
      exact ⟨fun e => hn1.2.2 q.1 (List.mem_map.2 ⟨q, hq, rfl⟩) p.1 (by simp) e, fun e => hn2.2.2 q.2 (List.mem_map.2 ⟨q, hq, rfl⟩) p.2 (by simp) e⟩
    have s1 : List.Sublist ((L1 ++ L2).map Prod.fst) ((L1 ++ p :: L2).map Prod.fst) := (List.Sublist.append (List.Sublist.refl L1) (List.sublist_cons_self p L2)).map _
    have s2 : List.Sublist ((L1 ++ L2).map Prod.snd) ((L1 ++ p :: L2).map Prod.snd) := (List.Sublist.append (List.Sublist.refl L1) (List.sublist_cons_self p L2)).map _
    refine h_allocsN t zs hz n (L1 ++ L2) _ _ _ fuel hlen hcR (fun q hq => ho q (by rcases List.mem_append.1 hq with g | g <;> simp [g])) (hn1.sublist s1) (hn2.sublist s2) (fun w' hb => hS w' (m.below.trans (hb.mono m.below.size))) (fun bs w2 bl bn br bb => ?_)
    have e1 : (bs.take L1.length).length = L1.length := by rw [List.length_take, bl, ← hlen, List.length_append]; omega
    have hb0 : ∀ b ∈ bs, w.heap.size < b := fun b hb => by have := (br b hb).1; have := m.size; omega
    have h2 := h (bs.take L1.length ++ w.heap.size :: bs.drop L1.length) w2 (by rw [List.length_append, List.length_cons, e1, List.length_drop, bl]; rw [List.length_append] at hlen; omega)
      (by
        rw [List.nodup_append]
        refine ⟨bn.sublist (List.take_sublist _ _), List.nodup_cons.2 ⟨fun hm => absurd (hb0 _ (List.mem_of_mem_drop hm)) (Nat.lt_irrefl _), bn.sublist (List.drop_sublist _ _)⟩, fun x hx y hy => ?_⟩
        rcases List.mem_cons.1 hy with rfl | hy
        · exact Ne.symm (Nat.ne_of_lt (hb0 _ (List.mem_of_mem_take hx)))
        · rw [← List.take_append_drop L1.length bs, List.nodup_append] at bn
          exact bn.2.2 x hx y hy)
      (fun b hb => by
        rcases List.mem_append.1 hb with g | g
        · have := br b (List.mem_of_mem_take g); exact ⟨Nat.le_trans m.below.size this.1, this.2⟩
        · rcases List.mem_cons.1 g with rfl | g
          · exact ⟨Nat.le_refl _, hr.old bb⟩
          · have := br b (List.mem_of_mem_drop g); exact ⟨Nat.le_trans m.below.size this.1, this.2⟩)
      (m.below.trans (bb.mono m.below.size))
    rw [List.foldl_append, List.foldl_cons, List.zip_append e1.symm, List.zip_cons_cons, List.foldl_append, List.foldl_cons] at h2
    have f1 : L1.foldl setA (setA listed p) = setA (L1.foldl setA listed) p := foldl_late setA p L1 listed (fun q hq y => Array.setIfInBounds_comm _ _ (Ne.symm (q1 q hq).1))
    have f2 : (L1.zip (bs.take L1.length)).foldl putA (putA a (p, w.heap.size)) = putA ((L1.zip (bs.take L1.length)).foldl putA a) (p, w.heap.size) :=
      foldl_late putA (p, w.heap.size) _ a (fun q hq y => Act.put_comm y _ _ (fun d hd he => (q1 q.1 (List.of_mem_zip hq).1).2 (Option.some.inj (he.trans hd.symm))))
    rw [← f1, ← f2, ← List.foldl_append, ← List.foldl_append, ← List.zip_append e1.symm, List.take_append_drop] at h2
    exact h2
end
end Go.Proofs.Ytghogoijjaiccaa.Mem
