/-
  'append(append(append([]T{}, s...), x), r...)' and 'append(append([]T{}, s...), r...)' in a region that draws its order: what is made, whatever comes up first. Over whatever program.
-/
import Derived.Test.YtnjmocobncncdaaGreatDoorFoot
import Derived.Test.YtnjmocobncncdaaGreatDoorSlisAll
namespace Go.Proofs.YtnjmocobncncdaaGreatDoor.Sl
open Go.RowKit Go.Proofs.YtnjmocobncncdaaGreatDoor.Mem
set_option linter.unusedVariables false
set_option linter.unusedSimpArgs false

section
variable {α : Type} {K : Kind α} {P : Program} {ops : Array Oper} {Q : Exit → Act → World → Prop} {md : Region.Mode} {S : World → Prop} {a : Act} {w : World} {fuel : Nat} {listed : Array Bool}
/-- 'append(t, s...)' onto a row of the call's own that has come since w. -/
theorem cat_step {i : Nat} {X : Act → World → Prop} {o : Oper} {w0 : World} (hi : ops[i]? = some o) (d : Tmp) (hd : o.dst = some d) (hg : Region.wanted o (yielded ops a.tmps) = true) (F : K.Fit P) (s x : Operand) (ho : o.op = .call { callee := .builtin .append, args := #[s, x], argTypes := #[K.ts, K.ts] })
    (p : Option Addr) (n cap : Nat) (l : List α) (hn : n = l.length) (hs : a.eval s = .slice p n cap) (hown : Own K w w0.heap.size p cap l) (q : Option Addr) (m c : Nat) (ys : List α) (hx : a.eval x = .slice q m c) (hm : m = ys.length) (hy : At K w q ys) (hz : l.length + ys.length ≤ 1000000) (hb : Below w0.heap.size w0 w)
    (h : ∀ p' cap' w', Own K w' w0.heap.size p' cap' (l ++ ys) → Below w0.heap.size w0 w' → (∀ g, g < w.heap.size → bk p ≠ some g → w'.heap[g]? = w.heap[g]?) → (bk p' = bk p ∨ bk p' = some w.heap.size) → w.heap.size ≤ w'.heap.size → X (a.put (some d) (.slice p' (l ++ ys).length cap')) w') : wpOp P ops Q i X a w :=
  o_appendQ hi d hd hg F s x ho w0.heap.size p n cap l hn hs hown q m c ys hx hm hy hz hb.size fun p' cap' w' h1 h2 h3 h4 => h p' cap' w' h1 (hb.trans h2) h3.out h4.out h2.size
theorem lit0_run {o : Oper} (F : K.Fit P) (parts : Array (Nat × Operand)) (ho : o.op = .buildSlice K.ts 0 parts) (hp : parts = #[]) : (execOp a.eval o).run P w = .ok (.value (.slice (some ⟨w.heap.size, 0, none⟩) 0 0)) (w.alloc (.cells #[] K.t)) := by
  subst hp
  exact run_op_lit F [] allOk_nil (by simp) 0 _ ho rfl (by simp only [List.map_toArray, List.map_nil]; rfl)
theorem lit1_run {o : Oper} (F : K.Fit P) {x : α} (kx : K.ok x) (y : Operand) (ho : o.op = .buildSlice K.ts 1 #[(0, y)]) (hy : a.eval y = .agg (K.cs x).toArray) : (execOp a.eval o).run P w = .ok (.value (.slice (some ⟨w.heap.size, 0, none⟩) 1 1)) (w.alloc (.cells (K.all [x]).toArray K.t)) :=
  run_op_lit F [x] (allOk_cons kx allOk_nil) (by simp) 1 _ ho rfl (by simp only [List.map_toArray, List.map_cons, List.map_nil, hy]; rfl)
/-- 'append(append([]T{}, s...), r...)'. -/
theorem h_cat2 {i j n : Nat} {oi oj on : Oper} (hi : ops[i]? = some oi) (hj : ops[j]? = some oj) (hn : ops[n]? = some on) (r0 : Region.ready md ops listed = [i]) (r1 : Region.ready md ops (listed.setIfInBounds i true) = [j])
    (r2 : Region.ready md ops ((listed.setIfInBounds i true).setIfInBounds j true) = [n]) (F : K.Fit P) (di dj dn : Tmp) (hdi : oi.dst = some di) (hdj : oj.dst = some dj) (hdn : on.dst = some dn) (gi : oi.guard = none) (gj : oj.guard = none) (gn : on.guard = none)
    (parts : Array (Nat × Operand)) (hoi : oi.op = .buildSlice K.ts 0 parts) (hpa : parts = #[]) (sj xj sn xn : Operand) (hoj : oj.op = .call { callee := .builtin .append, args := #[sj, xj], argTypes := #[K.ts, K.ts] }) (hon : on.op = .call { callee := .builtin .append, args := #[sn, xn], argTypes := #[K.ts, K.ts] })
    (q1 q2 : Option Addr) (m1 m2 c1 c2 : Nat) (ys zs : List α) (hm1 : m1 = ys.length) (hm2 : m2 = zs.length) (hy : At K w q1 ys) (hz : At K w q2 zs) (hl : ys.length + zs.length ≤ 1000000)
    (e1 : ∀ v, (a.put (some di) v).eval sj = v) (e2 : ∀ v, (a.put (some di) v).eval xj = .slice q1 m1 c1) (e3 : ∀ v u, ((a.put (some di) v).put (some dj) u).eval sn = u) (e4 : ∀ v u, ((a.put (some di) v).put (some dj) u).eval xn = .slice q2 m2 c2)
    (hS : ∀ w', Below w.heap.size w w' → S w')
    (h : ∀ v u p c y, Own K y w.heap.size p c (ys ++ zs) → Below w.heap.size w y → wpAnyH P md ops Q S fuel (((listed.setIfInBounds i true).setIfInBounds j true).setIfInBounds n true) (((a.put (some di) v).put (some dj) u).put (some dn) (.slice p (ys ++ zs).length c)) y) : wpAnyH P md ops Q S (fuel + 3) listed a w := by
  have m := new_alloc w (.cells #[] K.t)
  refine h_one r0 (o_value _ hi di hdi (by simp [Region.wanted, gi]) (lit0_run F parts hoi hpa) ⟨hS _ m.below, ?_⟩)
  have oE := own_empty F w
  generalize w.alloc (.cells #[] K.t) = w1 at m oE ⊢
  refine h_one r1 (cat_step (w0 := w) hj dj hdj (by simp [Region.wanted, gj]) F sj xj hoj _ 0 0 [] rfl (e1 _) oE q1 m1 c1 ys (e2 _) hm1 (hy.below m.below) (by simp; omega) m.below fun p1 k1 w2 hO hB hk hb hs => ⟨hS _ hB, ?_⟩)
  rw [List.nil_append] at hO ⊢
  refine h_one r2 (cat_step (w0 := w) hn dn hdn (by simp [Region.wanted, gn]) F sn xn hon _ _ _ ys rfl (e3 _ _) hO q2 m2 c2 zs (e4 _ _) hm2 (hz.below hB) hl hB fun p2 k2 w3 hO2 hB2 _ _ _ => ⟨hS _ hB2, h _ _ p2 k2 w3 hO2 hB2⟩)
/-- 'append(append(append([]T{}, s...), x), r...)', of three orders. -/
theorem h_cat3 {i j m k n : Nat} {oi oj om ok on : Oper} (hi : ops[i]? = some oi) (hj : ops[j]? = some oj) (hmm : ops[m]? = some om) (hkk : ops[k]? = some ok) (hn : ops[n]? = some on)
    (r0 : Region.ready md ops listed = [i, m]) (r1 : Region.ready md ops (listed.setIfInBounds i true) = [j, m]) (r2 : Region.ready md ops ((listed.setIfInBounds i true).setIfInBounds j true) = [m])
    (r3 : Region.ready md ops ((listed.setIfInBounds i true).setIfInBounds m true) = [j]) (r4 : Region.ready md ops (listed.setIfInBounds m true) = [i])
    (r5 : Region.ready md ops (((listed.setIfInBounds i true).setIfInBounds j true).setIfInBounds m true) = [k]) (r6 : Region.ready md ops ((((listed.setIfInBounds i true).setIfInBounds j true).setIfInBounds m true).setIfInBounds k true) = [n])
    (F : K.Fit P) (di dj dm dk dn : Tmp) (hdi : oi.dst = some di) (hdj : oj.dst = some dj) (hdm : om.dst = some dm) (hdk : ok.dst = some dk) (hdn : on.dst = some dn) (gi : oi.guard = none) (gj : oj.guard = none) (gm : om.guard = none) (gk : ok.guard = none) (gn : on.guard = none)
    (nim : i ≠ m) (njm : j ≠ m) (tim : di ≠ dm) (tjm : dj ≠ dm)
    (parts : Array (Nat × Operand)) (hoi : oi.op = .buildSlice K.ts 0 parts) (hpa : parts = #[]) (x : α) (kx : K.ok x) (y1 : Operand) (hom : om.op = .buildSlice K.ts 1 #[(0, y1)])
    (sj xj sk xk sn xn : Operand) (hoj : oj.op = .call { callee := .builtin .append, args := #[sj, xj], argTypes := #[K.ts, K.ts] }) (hok : ok.op = .call { callee := .builtin .append, args := #[sk, xk], argTypes := #[K.ts, K.ts] }) (hon : on.op = .call { callee := .builtin .append, args := #[sn, xn], argTypes := #[K.ts, K.ts] })
    (q1 q2 : Option Addr) (m1 m2 c1 c2 : Nat) (ys zs : List α) (hm1 : m1 = ys.length) (hm2 : m2 = zs.length) (hy : At K w q1 ys) (hz : At K w q2 zs) (hl : ys.length + 1 + zs.length ≤ 1000000)
    (e0 : a.eval y1 = .agg (K.cs x).toArray) (e0i : ∀ v, (a.put (some di) v).eval y1 = .agg (K.cs x).toArray) (e0j : ∀ v u, ((a.put (some di) v).put (some dj) u).eval y1 = .agg (K.cs x).toArray)
    (e1 : ∀ v, (a.put (some di) v).eval sj = v) (e2 : ∀ v, (a.put (some di) v).eval xj = .slice q1 m1 c1) (e1m : ∀ v u, ((a.put (some di) v).put (some dm) u).eval sj = v) (e2m : ∀ v u, ((a.put (some di) v).put (some dm) u).eval xj = .slice q1 m1 c1)
    (e3 : ∀ v u t, (((a.put (some di) v).put (some dj) u).put (some dm) t).eval sk = u) (e4 : ∀ v u t, (((a.put (some di) v).put (some dj) u).put (some dm) t).eval xk = t)
    (e5 : ∀ v u t r, ((((a.put (some di) v).put (some dj) u).put (some dm) t).put (some dk) r).eval sn = r) (e6 : ∀ v u t r, ((((a.put (some di) v).put (some dj) u).put (some dm) t).put (some dk) r).eval xn = .slice q2 m2 c2)
    (hS : ∀ w', Below w.heap.size w w' → S w')
    (h : ∀ v u t r p c y, Own K y w.heap.size p c (ys ++ [x] ++ zs) → Below w.heap.size w y → wpAnyH P md ops Q S fuel (((((listed.setIfInBounds i true).setIfInBounds j true).setIfInBounds m true).setIfInBounds k true).setIfInBounds n true) (((((a.put (some di) v).put (some dj) u).put (some dm) t).put (some dk) r).put (some dn) (.slice p (ys ++ [x] ++ zs).length c)) y) : wpAnyH P md ops Q S (fuel + 5) listed a w := by
  -- what is behind the three: the same, whatever came up first
  have rest : ∀ (v t : Value) (p1 : Option Addr) (k1 N : Nat) (w3 : World), t = .slice (some ⟨N, 0, none⟩) 1 1 → Own K w3 w.heap.size p1 k1 ys → Row w3 N K.t (K.all [x]) → Below w.heap.size w w3 →
      wpAnyH P md ops Q S (fuel + 2) (((listed.setIfInBounds i true).setIfInBounds j true).setIfInBounds m true) (((a.put (some di) v).put (some dj) (.slice p1 ys.length k1)).put (some dm) t) w3 := by
    rintro v _ p1 k1 N w3 rfl hO hN hB
    refine h_one r5 (cat_step (w0 := w) hkk dk hdk (by simp [Region.wanted, gk]) F sk xk hok _ _ _ ys rfl (e3 _ _ _) hO (some ⟨N, 0, none⟩) 1 1 [x] (e4 _ _ _) rfl (At.row (c := []) F (allOk_cons kx allOk_nil) hN (List.append_nil _).symm) (by simp; omega) hB fun p2 k2 w4 hO2 hB2 _ _ _ => ⟨hS _ hB2, ?_⟩)
    refine h_one r6 (cat_step (w0 := w) hn dn hdn (by simp [Region.wanted, gn]) F sn xn hon _ _ _ (ys ++ [x]) rfl (e5 _ _ _ _) hO2 q2 m2 c2 zs (e6 _ _ _ _) hm2 (hz.below hB2) (by simp; omega) hB2 fun p3 k3 w5 hO3 hB3 _ _ _ => ⟨hS _ hB3, h _ _ _ _ p3 k3 w5 hO3 hB3⟩)
  refine wpAnyH_all r0 (by simp) (fun b hb => ?_)
  have hb' : b = i ∨ b = m := by simpa using hb
  rcases hb' with rfl | rfl
  · have me := new_alloc w (.cells #[] K.t)
    refine o_value _ hi di hdi (by simp [Region.wanted, gi]) (lit0_run F parts hoi hpa) ⟨hS _ me.below, ?_⟩
    have oE := own_empty F w
    generalize w.alloc (.cells #[] K.t) = w1 at me oE ⊢
    refine wpAnyH_all r1 (by simp) (fun b2 hb2 => ?_)
    have hb2' : b2 = j ∨ b2 = m := by simpa using hb2
    rcases hb2' with rfl | rfl
    · refine cat_step (w0 := w) hj dj hdj (by simp [Region.wanted, gj]) F sj xj hoj _ 0 0 [] rfl (e1 _) oE q1 m1 c1 ys (e2 _) hm1 (hy.below me.below) (by simp; omega) me.below fun p1 k1 w2 hO hB hk hbb hs => ⟨hS _ hB, ?_⟩
      rw [List.nil_append] at hO ⊢
      have mn := new_alloc w2 (.cells (K.all [x]).toArray K.t)
      refine h_one r2 (o_value _ hmm dm hdm (by simp [Region.wanted, gm]) (lit1_run F kx y1 hom (e0j _ _)) ⟨hS _ (hB.trans (mn.below.mono hB.size)), ?_⟩)
      exact rest _ _ p1 k1 w2.heap.size _ rfl (hO.below mn.below) (heap_alloc_new _ _) (hB.trans (mn.below.mono hB.size))
    · have mn := new_alloc w1 (.cells (K.all [x]).toArray K.t)
      have rN : Row (w1.alloc (.cells (K.all [x]).toArray K.t)) w1.heap.size K.t (K.all [x]) := heap_alloc_new _ _
      have hB1 : Below w.heap.size w (w1.alloc (.cells (K.all [x]).toArray K.t)) := me.below.trans (mn.below.mono me.below.size)
      refine o_value _ hmm dm hdm (by simp [Region.wanted, gm]) (lit1_run F kx y1 hom (e0i _)) ⟨hS _ hB1, ?_⟩
      have oE2 := oE.below mn.below
      have hsz := me.size
      generalize hN : w1.heap.size = N at rN hsz
      generalize w1.alloc (.cells (K.all [x]).toArray K.t) = w2 at mn rN hB1 oE2 ⊢
      refine h_one r3 (cat_step (w0 := w) hj dj hdj (by simp [Region.wanted, gj]) F sj xj hoj _ 0 0 [] rfl (e1m _ _) oE2 q1 m1 c1 ys (e2m _ _) hm1 (hy.below hB1) (by simp; omega) hB1 fun p1 k1 w3 hO hB hk hbb hs => ⟨hS _ hB, ?_⟩)
      rw [List.nil_append] at hO ⊢
      rw [Array.setIfInBounds_comm _ _ (Ne.symm njm), Act.put_comm _ _ _ (fun d hd he => tjm (Option.some.inj (he.trans hd.symm)))]
      exact rest _ _ p1 k1 N _ rfl hO (rN.of_block (hk N rN.lt (fun e => by have := Option.some.inj (show some w.heap.size = some N from e); omega))) hB
  · have mn := new_alloc w (.cells (K.all [x]).toArray K.t)
    have rN : Row (w.alloc (.cells (K.all [x]).toArray K.t)) w.heap.size K.t (K.all [x]) := heap_alloc_new _ _
    refine o_value _ hmm dm hdm (by simp [Region.wanted, gm]) (lit1_run F kx y1 hom e0) ⟨hS _ mn.below, ?_⟩
    have hsz := mn.size
    generalize w.alloc (.cells (K.all [x]).toArray K.t) = w1 at mn rN hsz ⊢
    have me := new_alloc w1 (.cells #[] K.t)
    have hB1 : Below w.heap.size w (w1.alloc (.cells #[] K.t)) := mn.below.trans (me.below.mono mn.below.size)
    refine h_one r4 (o_value _ hi di hdi (by simp [Region.wanted, gi]) (lit0_run F parts hoi hpa) ⟨hS _ hB1, ?_⟩)
    have oE := (own_empty F w1).low mn.below.size
    have rN2 := rN.old me.below
    have hE : w1.heap.size ≠ w.heap.size := by omega
    generalize hEE : w1.heap.size = E at oE hE
    generalize w1.alloc (.cells #[] K.t) = w2 at me oE hB1 rN2 ⊢
    rw [Array.setIfInBounds_comm _ _ (Ne.symm nim), Act.put_comm _ _ _ (fun d hd he => tim (Option.some.inj (he.trans hd.symm)))]
    refine h_one r3 (cat_step (w0 := w) hj dj hdj (by simp [Region.wanted, gj]) F sj xj hoj _ 0 0 [] rfl (e1m _ _) oE q1 m1 c1 ys (e2m _ _) hm1 (hy.below hB1) (by simp; omega) hB1 fun p1 k1 w3 hO hB hk hbb hs => ⟨hS _ hB, ?_⟩)
    rw [List.nil_append] at hO ⊢
    rw [Array.setIfInBounds_comm _ _ (Ne.symm njm), Act.put_comm _ _ _ (fun d hd he => tjm (Option.some.inj (he.trans hd.symm)))]
    exact rest _ _ p1 k1 w.heap.size _ rfl hO (rN2.of_block (hk w.heap.size rN2.lt (fun e => hE (Option.some.inj (show some E = some w.heap.size from e))))) hB
end
end Go.Proofs.YtnjmocobncncdaaGreatDoor.Sl
