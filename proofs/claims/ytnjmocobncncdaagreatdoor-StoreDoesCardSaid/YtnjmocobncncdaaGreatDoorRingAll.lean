import Derived.Test.YtnjmocobncncdaaGreatDoorBytAll
import Derived.Test.YtnjmocobncncdaaGreatDoorMemAll
import Derived.Lib.SliceRun
import Derived.Laws.StructEq
import Derived.Test.YtnjmocobncncdaaGreatDoorNumAll
/-
  Rings as cells: a number and four counts; smaller and larger of two numbers; 'clear' of a slice; '==' between rings; a sub-window's ring place (package slot). Over this seat's translation.
-/
namespace Go.Proofs.YtnjmocobncncdaaGreatDoor.Rg
open Go.ChangeShapes Go.WideShapes Go.ChangeAt Go.RowKit Go.Proofs.YtnjmocobncncdaaGreatDoor.Mem Go.Proofs.YtnjmocobncncdaaGreatDoor.Bt
set_option linter.unusedVariables false
set_option maxRecDepth 100000

/-- A ring's cells. -/
def rcs (L : Nat) (cs : List Nat) : List Value := .int .u32 (L : Int) :: u32s cs
theorem rcs_len {L : Nat} {cs : List Nat} (h : cs.length = 4) : (rcs L cs).length = 5 := by unfold rcs; rw [List.length_cons, u32s_length, h]
theorem rcs_one (L : Nat) (cs : List Nat) : OneCells (rcs L cs) := by
  intro v hv
  unfold rcs at hv
  rcases List.mem_cons.1 hv with rfl | hv
  · rfl
  · exact u32s_one _ v hv
theorem four {cs : List Nat} (h : cs.length = 4) : ∃ a b c d, cs = [a, b, c, d] := by
  match cs, h with
  | [a, b, c, d], _ => exact ⟨a, b, c, d, rfl⟩
theorem sz_ring : Sized Tryz.prog 36 5 := ⟨.struct (Tryz.prog.fieldsOf 36), by kernel_rfl, rfl, by kernel_rfl⟩
theorem sz_ring' {L : Nat} {cs : List Nat} (h : cs.length = 4) : Sized Tryz.prog 36 (rcs L cs).length := by rw [rcs_len h]; exact sz_ring
theorem sz_arr : Sized Tryz.prog 34 4 := ⟨.array 4 33, by kernel_rfl, rfl, by kernel_rfl⟩
section
variable {P : Program} {ops : Array Oper} {rest : List Oper} {o : Oper} {a : Act} {w : World} {Q : Exit → Act → World → Prop}
end

theorem part_u32s (xs : List Nat) (i : Nat) (hi : i < xs.length) (w : World) : (part 33 (u32s xs).toArray i).run Tryz.prog w = .ok (.int .u32 ((xs.getD i 0 : Nat) : Int)) w := by
  have hu : Tryz.prog.underlying 33 = some (.int .u32) := by kernel_rfl
  have hg := u32s_get hi
  simp [part, isAgg, run_underlying hu, hg]
theorem eq_num (d m n : Nat) (w : World) : (Op.equalIn (d + 1) 33 (.int .u32 (m : Int)) (.int .u32 (n : Int))).run Tryz.prog w = .ok (decide (m = n)) w := by
  have hu : Tryz.prog.underlying 33 = some (.int .u32) := by kernel_rfl
  rw [run_equalIn_int w d 33 .u32 .u32 m n hu]
  congr 1
  by_cases h : m = n
  · simp [h]
  · have : ((m : Int) == (n : Int)) = false := beq_eq_false_iff_ne.2 (by omega)
    rw [this]; simp [h]
theorem getD_ext {xs ys : List Nat} (h : xs.length = ys.length) (hg : ∀ i, i < xs.length → xs.getD i 0 = ys.getD i 0) : xs = ys := by
  apply List.ext_getElem h
  intro i h1 h2
  have := hg i h1
  rwa [List.getD_eq_getElem?_getD, List.getD_eq_getElem?_getD, List.getElem?_eq_getElem h1, List.getElem?_eq_getElem h2] at this
theorem eq_arr (d : Nat) (xs ys : List Nat) (hx : xs.length = 4) (hy : ys.length = 4) (w : World) :
    (Op.equalIn (d + 2) 34 (.agg (u32s xs).toArray) (.agg (u32s ys).toArray)).run Tryz.prog w = .ok (decide (xs = ys)) w := by
  have hu : Tryz.prog.underlying 34 = some (.array 4 33) := by kernel_rfl
  have hs : (sizeOf 33).run Tryz.prog w = .ok 1 w := by kernel_rfl
  unfold Op.equalIn
  simp only [Sem.run_bind, run_underlying hu, Result.andThen_ok, hs]
  have key : ∀ l : List Nat, (∀ i ∈ l, i < 4) → (forIn (m := Sem) l ((none : Option Bool), ()) fun i __s => do
      let a ← part 33 (u32s xs).toArray (i * 1)
      let b ← part 33 (u32s ys).toArray (i * 1)
      let r ← Op.equalIn (d + 1) 33 a b
      if (!r) = true then pure (ForInStep.done (some false, ())) else pure (ForInStep.yield (none, ()))).run Tryz.prog w = .ok (if ∀ i ∈ l, xs.getD i 0 = ys.getD i 0 then (none, ()) else (some false, ())) w := by
    intro l
    induction l with
    | nil => intro _; simp
    | cons i l ih =>
      intro h
      have hi := h i (by simp)
      rw [List.forIn_cons]
      simp only [Sem.run_bind, Nat.mul_one, part_u32s xs i (by omega) w, part_u32s ys i (by omega) w, Result.andThen_ok, eq_num]
      by_cases he : xs.getD i 0 = ys.getD i 0
      · simp only [he, decide_true, Bool.not_true, Bool.false_eq_true, if_false, Sem.run_pure, Result.andThen_ok]
        have := ih (fun j hj => h j (by simp [hj]))
        simp only [Nat.mul_one] at this
        rw [this]
        simp only [List.mem_cons, forall_eq_or_imp, he, true_and]
      · simp only [he, decide_false, Bool.not_false, if_true, Sem.run_pure, Result.andThen_ok]
        rw [if_neg (fun hc => he (hc i (by simp)))]
  rw [Std.Legacy.Range.forIn_eq_forIn_range']
  rw [key _ (fun i hi => by simp [Std.Legacy.Range.size] at hi; omega)]
  by_cases he : xs = ys
  · subst he; simp
  · have hne : ¬ ∀ i ∈ List.range' 0 (Std.Legacy.Range.size ⟨0, 4, 1, by decide⟩) 1, xs.getD i 0 = ys.getD i 0 := fun hc => he (getD_ext (by omega) (fun i hi => hc i (by simp [Std.Legacy.Range.size]; omega)))
    rw [if_neg hne]
    simp [he]
theorem part_num (L : Nat) (cs : List Nat) (w : World) : (part 33 (rcs L cs).toArray 0).run Tryz.prog w = .ok (.int .u32 (L : Int)) w := by
  have hu : Tryz.prog.underlying 33 = some (.int .u32) := by kernel_rfl
  simp [part, isAgg, run_underlying hu, rcs]
theorem part_arr (L : Nat) (cs : List Nat) (h : cs.length = 4) (w : World) : (part 34 (rcs L cs).toArray 1).run Tryz.prog w = .ok (.agg (u32s cs).toArray) w := by
  have hu : Tryz.prog.underlying 34 = some (.array 4 33) := by kernel_rfl
  have hs : (sizeOf 34).run Tryz.prog w = .ok 4 w := by kernel_rfl
  obtain ⟨a, b, c, d, rfl⟩ := four h
  simp [part, isAgg, run_underlying hu, rcs, u32s]
/-- The two fields of a ring. -/
structure Fields (fs : List Field) : Prop where
  ex : ∃ f g : Field, fs = [f, g] ∧ f.name ≠ "_" ∧ f.type = 33 ∧ f.offset = 0 ∧ g.name ≠ "_" ∧ g.type = 34 ∧ g.offset = 1
theorem fields_of {fs : List Field} (h : fs.map (fun f => (f.name, f.type, f.offset)) = [("Last", 33, 0), ("Counts", 34, 1)]) : Fields fs := by
  have hl : fs.length = 2 := by have := congrArg List.length h; simpa using this
  match fs, hl with
  | [f, g], _ =>
    simp only [List.map_cons, List.map_nil, List.cons.injEq, Prod.mk.injEq, and_true] at h
    obtain ⟨⟨h1, h2, h3⟩, h4, h5, h6⟩ := h
    exact ⟨f, g, rfl, by rw [h1]; decide, h2, h3, by rw [h4]; decide, h5, h6⟩
theorem fields_rref : Fields (Tryz.prog.fieldsOf 48).toList := fields_of (by kernel_rfl)
theorem eq_ringF (t : TypeId) (hU : Tryz.prog.underlying t = some (.struct (Tryz.prog.fieldsOf t))) (hp : Tryz.prog.stoodInHeld t = false) (hF : Fields (Tryz.prog.fieldsOf t).toList) (d L M : Nat) (xs ys : List Nat) (hx : xs.length = 4) (hy : ys.length = 4) (w : World) :
    (Op.equalIn (d + 3) t (.agg (rcs L xs).toArray) (.agg (rcs M ys).toArray)).run Tryz.prog w = .ok (decide (L = M ∧ xs = ys)) w := by
  rw [run_equalIn_struct w (d + 2) t _ _ hU hp]
  obtain ⟨f, g, hfs, n1, t1, o1, n2, t2, o2⟩ := hF.ex
  rw [hfs]
  simp only [Op.eqFields, n1, n2, ne_eq, not_false_eq_true, if_true, t1, t2, o1, o2, Sem.run_bind, part_num, Result.andThen_ok, eq_num]
  by_cases h1 : L = M
  · by_cases h2 : xs = ys
    · simp [h1, h2, part_arr _ _ hy, eq_arr d ys ys hy hy]
    · simp [h1, h2, part_arr _ _ hx, part_arr _ _ hy, eq_arr d xs ys hx hy]
  · simp [h1]
theorem eq_rref (d L M : Nat) (xs ys : List Nat) (hx : xs.length = 4) (hy : ys.length = 4) (w : World) :
    (Op.equalIn (d + 3) 48 (.agg (rcs L xs).toArray) (.agg (rcs M ys).toArray)).run Tryz.prog w = .ok (decide (L = M ∧ xs = ys)) w :=
  eq_ringF _ (by kernel_rfl) (by kernel_rfl) fields_rref d L M xs ys hx hy w
section
variable {o : Oper} {a : Act}
end

end Go.Proofs.YtnjmocobncncdaaGreatDoor.Rg

/-
  What a ring tells, over numbers and lists: how many blocks a sub-window has, the ring as of a later sub-window, with one block more; which rings are right.
-/
namespace Go.Proofs.YtnjmocobncncdaaGreatDoor.Rg
open Go.Proofs.YtnjmocobncncdaaGreatDoor.Mem Go.Proofs.YtnjmocobncncdaaGreatDoor.Bt
set_option linter.unusedVariables false

/-- How many blocks a ring tells of a sub-window. -/
def atG (L : Nat) (cs : List Nat) (g : Int) : Nat := if (L : Int) - 4 < g ∧ g ≤ (L : Int) then cs.getD (g % 4).toNat 0 else 0
/-- The latest sub-window of a ring place that isn't behind s. -/
def lat (s : Int) (p : Nat) : Int := s - (s - (p : Int)) % 4
/-- The counts as of a later sub-window, if no block comes up to there. -/
def mvd (L : Nat) (cs : List Nat) (s : Nat) : List Nat := [atG L cs (lat s 0), atG L cs (lat s 1), atG L cs (lat s 2), atG L cs (lat s 3)]
/-- The four counts together. -/
def sumc (cs : List Nat) : Nat := cs.getD 0 0 + cs.getD 1 0 + cs.getD 2 0 + cs.getD 3 0
/-- No count is above three. -/
def Small (cs : List Nat) : Prop := ∀ i, i < 4 → cs.getD i 0 ≤ 3
/-- A ring that may be. -/
def Rt (L : Nat) (cs : List Nat) : Prop := Small cs ∧ 1 ≤ cs.getD (L % 4) 0
instance (cs : List Nat) : Decidable (Small cs) := by unfold Small; exact inferInstance
instance (L : Nat) (cs : List Nat) : Decidable (Rt L cs) := by unfold Rt; exact inferInstance
/-- The counts with one block more in sub-window s. -/
def putd (L : Nat) (cs : List Nat) (s : Nat) : List Nat := (mvd L cs s).set (s % 4) (atG L cs s + 1)
/-- The counts, none of the first k above three. -/
def mn (k : Nat) (cs : List Nat) : List Nat := (cs.take k).map (fun c => min c 3) ++ cs.drop k
end Go.Proofs.YtnjmocobncncdaaGreatDoor.Rg

/-
  The contracts of package ring's functions over this seat's translation.
-/
namespace Go.Proofs.YtnjmocobncncdaaGreatDoor.Rg
open Go.ChangeShapes Go.WideShapes Go.ChangeAt Go.RowKit Go.Proofs.YtnjmocobncncdaaGreatDoor.Mem Go.Proofs.YtnjmocobncncdaaGreatDoor.Bt
set_option linter.unusedVariables false
set_option linter.unusedSimpArgs false

end Go.Proofs.YtnjmocobncncdaaGreatDoor.Rg

/-
  The contracts of package ring's Sum, Before and Put over this seat's translation.
-/
namespace Go.Proofs.YtnjmocobncncdaaGreatDoor.Rg
open Go.ChangeShapes Go.WideShapes Go.ChangeAt Go.RowKit Go.Proofs.YtnjmocobncncdaaGreatDoor.Mem Go.Proofs.YtnjmocobncncdaaGreatDoor.Bt
set_option linter.unusedVariables false
set_option linter.unusedSimpArgs false

/-- The first k counts together. -/
def ps (k : Nat) (cs : List Nat) : Nat := (cs.take k).sum
structure SmRel (w : World) (L : Nat) (cs : List Nat) (B : Nat) (i s : Value) (wr : World) : Prop where
  ex : ∃ k : Nat, k ≤ 4 ∧ i = .int .i64 k ∧ s = .int .u32 (ps k cs : Nat)
  bel : Below w.heap.size w wr
/-- How many blocks are ahead, and why not. -/
def befN (L : Nat) (cs : List Nat) (sub : Nat) : Nat := if sub ≤ L then 0 else sumc (mvd L cs (sub - 1))
end Go.Proofs.YtnjmocobncncdaaGreatDoor.Rg

/-
  The contracts of the document's answers for rings over this seat's translation.
-/
namespace Go.Proofs.YtnjmocobncncdaaGreatDoor.Rg
open Go.ChangeShapes Go.WideShapes Go.ChangeAt Go.RowKit Go.Proofs.YtnjmocobncncdaaGreatDoor.Mem Go.Proofs.YtnjmocobncncdaaGreatDoor.Bt
set_option linter.unusedVariables false
set_option linter.unusedSimpArgs false

end Go.Proofs.YtnjmocobncncdaaGreatDoor.Rg

/-
  The contract of the document's Put over this seat's translation.
-/
namespace Go.Proofs.YtnjmocobncncdaaGreatDoor.Rg
open Go.ChangeShapes Go.WideShapes Go.ChangeAt Go.RowKit Go.Proofs.YtnjmocobncncdaaGreatDoor.Mem Go.Proofs.YtnjmocobncncdaaGreatDoor.Bt
set_option linter.unusedVariables false
set_option linter.unusedSimpArgs false

/-- The counts, the first k filled. -/
def fl (k : Nat) (ds : List Nat) : List Nat := ds.take k ++ List.replicate (4 - k) 0
end Go.Proofs.YtnjmocobncncdaaGreatDoor.Rg

/-
  Operations of whatever guard, once they are wanted; a struct written out, run; the contract of layer 6's awake over this seat's translation.
-/
namespace Go.Proofs.YtnjmocobncncdaaGreatDoor.Rg
open Go.ChangeShapes Go.WideShapes Go.ChangeAt Go.RowKit Go.Proofs.YtnjmocobncncdaaGreatDoor.Mem Go.Proofs.YtnjmocobncncdaaGreatDoor.Bt
set_option linter.unusedVariables false
set_option linter.unusedSimpArgs false

end Go.Proofs.YtnjmocobncncdaaGreatDoor.Rg

/-
  RingTells, walked: whether any ring may be, how many blocks it has, and any window ahead, and the ring with one block more are as the document says. Over this seat's translation.
-/
namespace Go.Proofs.YtnjmocobncncdaaGreatDoor.Rg
open Go.ChangeShapes Go.WideShapes Go.ChangeAt Go.RowKit Go.Proofs.YtnjmocobncncdaaGreatDoor.Mem Go.Proofs.YtnjmocobncncdaaGreatDoor.Bt
set_option linter.unusedVariables false
set_option linter.unusedSimpArgs false

/-- What Put answers. -/
def putL (L : Nat) (cs : List Nat) (sub : Nat) : Nat := if L ≤ sub ∧ atG L cs sub < 3 then sub else 0
def putC (L : Nat) (cs : List Nat) (sub : Nat) : List Nat := if L ≤ sub ∧ atG L cs sub < 3 then putd L cs sub else [0, 0, 0, 0]
end Go.Proofs.YtnjmocobncncdaaGreatDoor.Rg

/-
  RingFades, walked: the further off a sub-window, the fewer blocks are ahead of it. Over this seat's translation.
-/
namespace Go.Proofs.YtnjmocobncncdaaGreatDoor.Rg
open Go.ChangeShapes Go.WideShapes Go.ChangeAt Go.RowKit Go.Proofs.YtnjmocobncncdaaGreatDoor.Mem Go.Proofs.YtnjmocobncncdaaGreatDoor.Bt
set_option linter.unusedVariables false
set_option linter.unusedSimpArgs false

end Go.Proofs.YtnjmocobncncdaaGreatDoor.Rg

/-
  '!=' between integers and the load of one number, run; the document's Later and Sub over Nat; a slot's sub-window (package slot). Over this seat's translation.
-/
namespace Go.Proofs.YtnjmocobncncdaaGreatDoor.Rg
open Go.ChangeShapes Go.WideShapes Go.ChangeAt Go.RowKit Go.Proofs.YtnjmocobncncdaaGreatDoor.Mem Go.Proofs.YtnjmocobncncdaaGreatDoor.Bt
set_option linter.unusedVariables false
set_option linter.unusedSimpArgs false

end Go.Proofs.YtnjmocobncncdaaGreatDoor.Rg
