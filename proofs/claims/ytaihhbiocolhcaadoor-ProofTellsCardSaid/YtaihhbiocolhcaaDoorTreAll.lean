import Derived.Test.YtaihhbiocolhcaaDoorAccAll
import Derived.Test.YtaihhbiocolhcaaDoorMemAll
import Derived.Maps.Keyed
import Derived.Maps.RangeRun
import Derived.Maps.RangeWalk
import Derived.Test.YtaihhbiocolhcaaDoorEpoAll
import Derived.Test.YtaihhbiocolhcaaDoorTagAll
import Derived.Test.YtaihhbiocolhcaaDoorAccRefAll
import Derived.LoopTactic
import Derived.Test.YtaihhbiocolhcaaDoorCmp
/-
  A tree of accounts over functions and lists: nodes, the root, paths; a path leads to the root; what a node hangs on. No program.
-/
namespace Go.Proofs.YtaihhbiocolhcaaDoor.Tr
open Go.Proofs.YtaihhbiocolhcaaDoor.Bt Go.Proofs.YtaihhbiocolhcaaDoor.Ac
open Go.Proofs.YtaihhbiocolhcaaDoor.Tg (tagD tagD_len)
open Go.Proofs.YtaihhbiocolhcaaDoor.Ep (H32)
set_option linter.unusedVariables false
set_option linter.unusedSimpArgs false

/-- The name 'node'. -/
def nameN : ByteArray := ⟨#[110, 111, 100, 101]⟩
/-- Each place's account. -/
abbrev Tree := Nat → Option Acct
def bare : Tree := fun _ => none
def leafD (t : Tree) (i : Nat) : List Nat := match t i with
  | some a => digA a
  | none => digE
def joinD (h : Nat) (l r : List Nat) : List Nat := tagD nameN [[h], l, r]
def nodeD (t : Tree) : Nat → Nat → List Nat
  | 0, i => leafD t i
  | h + 1, i => joinD (h + 1) (nodeD t h (2 * i)) (nodeD t h (2 * i + 1))
theorem node_succ (t : Tree) (h i : Nat) : nodeD t (h + 1) i = joinD (h + 1) (nodeD t h (2 * i)) (nodeD t h (2 * i + 1)) := rfl
def rootD (t : Tree) : List Nat := nodeD t 4 0
/-- The node beside. -/
def sib (i : Nat) : Nat := if i % 2 = 0 then i + 1 else i - 1
def besD (t : Tree) (p h : Nat) : List Nat := nodeD t h (sib (p / 2 ^ h))
def pathD (t : Tree) (p : Nat) : List (List Nat) := [besD t p 0, besD t p 1, besD t p 2, besD t p 3]
def setT (t : Tree) (p : Nat) (o : Option Acct) : Tree := fun i => if i = p then o else t i
theorem join_ok (h : Nat) (l r : List Nat) : H32 (joinD h l r) := tag_ok _ _
theorem leaf_ok (t : Tree) (i : Nat) : H32 (leafD t i) := by
  unfold leafD
  split
  · exact digA_ok _
  · exact digE_ok
theorem node_ok (t : Tree) : ∀ h i, H32 (nodeD t h i)
  | 0, i => leaf_ok t i
  | h + 1, i => join_ok _ _ _
theorem root_ok (t : Tree) : H32 (rootD t) := node_ok t 4 0
theorem bes_ok (t : Tree) (p h : Nat) : H32 (besD t p h) := node_ok t h _
/-- A node is made of the way's node and the one beside it. -/
theorem node_step (t : Tree) (p h : Nat) :
    nodeD t (h + 1) (p / 2 ^ (h + 1)) = if p / 2 ^ h % 2 = 0 then joinD (h + 1) (nodeD t h (p / 2 ^ h)) (besD t p h) else joinD (h + 1) (besD t p h) (nodeD t h (p / 2 ^ h)) := by
  have e : p / 2 ^ (h + 1) = p / 2 ^ h / 2 := by rw [Nat.pow_succ, Nat.div_div_eq_div_mul]
  unfold besD sib
  rw [e]
  generalize p / 2 ^ h = q
  rw [node_succ]
  by_cases hq : q % 2 = 0
  · rw [if_pos hq, if_pos hq, show 2 * (q / 2) = q by omega]
  · rw [if_neg hq, if_neg hq, show 2 * (q / 2) + 1 = q by omega, show 2 * (q / 2) = q - 1 by omega]
theorem node_top (t : Tree) {p : Nat} (h : p < 16) : nodeD t 4 (p / 2 ^ 4) = rootD t := by
  rw [show p / 2 ^ 4 = 0 from Nat.div_eq_of_lt h]
  rfl
/-- A node hangs on the places under it alone. -/
theorem node_congr {t u : Tree} : ∀ h i, (∀ j, j / 2 ^ h = i → t j = u j) → nodeD t h i = nodeD u h i
  | 0, i, hj => by
    unfold nodeD leafD
    rw [hj i (by simp)]
  | h + 1, i, hj => by
    have e : ∀ j, j / 2 ^ (h + 1) = j / 2 ^ h / 2 := fun j => by rw [Nat.pow_succ, Nat.div_div_eq_div_mul]
    rw [node_succ, node_succ, node_congr h (2 * i) (fun j k => hj j (by rw [e, k]; omega)), node_congr h (2 * i + 1) (fun j k => hj j (by rw [e, k]; omega))]
theorem sib_ne (i : Nat) : sib i ≠ i := by unfold sib; split <;> omega
theorem sib_lt {i n : Nat} (h : i < 2 * n) : sib i < 2 * n := by unfold sib; split <;> omega
/-- Its own path stays. -/
theorem bes_alone {t u : Tree} {p : Nat} (hj : ∀ j, j ≠ p → t j = u j) (h : Nat) : besD t p h = besD u p h :=
  node_congr h _ (fun j k => hj j (fun e => by subst e; exact sib_ne _ k.symm))
theorem path_alone {t u : Tree} {p : Nat} (hj : ∀ j, j ≠ p → t j = u j) : pathD t p = pathD u p := by
  unfold pathD
  rw [bes_alone hj, bes_alone hj, bes_alone hj, bes_alone hj]
theorem root_congr {t u : Tree} (h : ∀ j, j < 16 → t j = u j) : rootD t = rootD u :=
  node_congr 4 0 (fun j k => h j (by
    rcases Nat.lt_or_ge j 16 with g | g
    · exact g
    · have := Nat.div_pos g (by decide : 0 < 2 ^ 4)
      omega))
theorem set_same {t : Tree} {p : Nat} (h : t p = none) : setT t p none = t := by
  funext i
  unfold setT
  split
  · rename_i e; rw [e, h]
  · rfl
theorem set_other {t : Tree} {p i : Nat} {o : Option Acct} (h : i ≠ p) : setT t p o i = t i := if_neg h
theorem set_here (t : Tree) (p : Nat) (o : Option Acct) : setT t p o p = o := if_pos rfl
end Go.Proofs.YtaihhbiocolhcaaDoor.Tr

/-
  The trees of layer 15's awake: without accounts, and with one at place 5; their roots, which aren't the same: digests that the kernel reckons. No program.
-/
namespace Go.Proofs.YtaihhbiocolhcaaDoor.Tr
open Go.Proofs.YtaihhbiocolhcaaDoor.Bt Go.Proofs.YtaihhbiocolhcaaDoor.Ac
open Go.Proofs.YtaihhbiocolhcaaDoor.Tg (tagD tagD_len)
open Go.Proofs.YtaihhbiocolhcaaDoor.Ep (H32)
set_option linter.unusedVariables false
set_option linter.unusedSimpArgs false

/-- The digest of a node without accounts. -/
def bareD : Nat → List Nat
  | 0 => digE
  | h + 1 => joinD (h + 1) (bareD h) (bareD h)
theorem bareD_succ (h : Nat) : bareD (h + 1) = joinD (h + 1) (bareD h) (bareD h) := rfl
theorem bareD_ok : ∀ h, H32 (bareD h)
  | 0 => digE_ok
  | h + 1 => join_ok _ _ _
theorem bare_node : ∀ h i, nodeD bare h i = bareD h
  | 0, i => rfl
  | h + 1, i => by rw [node_succ, bare_node h, bare_node h]; rfl
theorem bare_root : rootD bare = bareD 4 := bare_node 4 0
/-- The account a. -/
def aA : Acct := ⟨⟨#[97]⟩, 0, 0⟩
theorem aA_ok : aA.Ok := ⟨by decide, by decide⟩
theorem aA_rt : NRt aA.nm := by decide
def oneT : Tree := setT bare 5 (some aA)
theorem one_bes (h : Nat) : besD oneT 5 h = bareD h := by
  rw [show besD oneT 5 h = besD bare 5 h from bes_alone (fun j hj => set_other hj) h]
  exact bare_node h _
theorem one_leaf : nodeD oneT 0 (5 / 2 ^ 0) = digA aA := rfl
theorem one_beside : besD oneT 4 0 = digA aA := rfl
def lE : List Nat := [29, 80, 10, 234, 55, 60, 6, 13, 11, 38, 141, 169, 210, 137, 43, 134, 89, 81, 9, 92, 70, 8, 128, 113, 126, 130, 89, 219, 104, 210, 148, 223]
def lA : List Nat := [159, 162, 29, 136, 115, 128, 167, 63, 243, 150, 150, 216, 61, 14, 105, 65, 129, 73, 110, 80, 92, 8, 122, 91, 182, 201, 183, 44, 108, 107, 156, 181]
def lB1 : List Nat := [161, 113, 220, 125, 84, 74, 39, 99, 154, 113, 243, 65, 220, 165, 126, 47, 10, 224, 253, 170, 96, 221, 200, 194, 175, 119, 119, 122, 48, 109, 59, 134]
def lB2 : List Nat := [93, 103, 193, 116, 37, 149, 220, 15, 13, 30, 243, 223, 84, 237, 186, 82, 94, 15, 212, 253, 249, 146, 81, 248, 100, 136, 1, 85, 47, 108, 187, 109]
def lB3 : List Nat := [69, 213, 34, 234, 58, 147, 51, 85, 26, 7, 192, 118, 60, 32, 110, 154, 82, 172, 211, 188, 39, 198, 2, 108, 221, 141, 82, 4, 196, 125, 46, 9]
def lB4 : List Nat := [191, 184, 248, 12, 57, 249, 13, 77, 167, 128, 182, 27, 182, 75, 205, 30, 157, 206, 4, 227, 199, 235, 160, 173, 250, 240, 248, 150, 211, 50, 29, 180]
def lM1 : List Nat := [196, 19, 123, 187, 250, 166, 123, 1, 5, 28, 143, 75, 195, 137, 219, 198, 130, 127, 164, 178, 154, 80, 197, 12, 20, 6, 104, 181, 249, 25, 8, 196]
def lM2 : List Nat := [153, 31, 230, 252, 95, 47, 12, 194, 223, 93, 169, 5, 88, 70, 69, 103, 128, 0, 12, 157, 31, 111, 117, 115, 248, 101, 157, 8, 48, 24, 31, 248]
def lM3 : List Nat := [42, 205, 56, 47, 241, 146, 211, 151, 184, 171, 242, 62, 193, 81, 169, 147, 163, 228, 181, 215, 56, 64, 64, 18, 41, 131, 138, 39, 57, 73, 228, 187]
def lM4 : List Nat := [60, 237, 137, 174, 118, 116, 16, 41, 70, 215, 24, 206, 131, 110, 34, 186, 34, 202, 193, 225, 0, 55, 192, 247, 220, 70, 215, 49, 162, 153, 88, 171]
theorem e_is : digE = lE := by kernel_rfl
theorem a_is : digA aA = lA := by kernel_rfl
theorem b1_is : joinD 1 lE lE = lB1 := by kernel_rfl
theorem b2_is : joinD 2 lB1 lB1 = lB2 := by kernel_rfl
theorem b3_is : joinD 3 lB2 lB2 = lB3 := by kernel_rfl
theorem b4_is : joinD 4 lB3 lB3 = lB4 := by kernel_rfl
theorem m1_is : joinD 1 lE lA = lM1 := by kernel_rfl
theorem m2_is : joinD 2 lM1 lB1 = lM2 := by kernel_rfl
theorem m3_is : joinD 3 lB2 lM2 = lM3 := by kernel_rfl
theorem m4_is : joinD 4 lM3 lB3 = lM4 := by kernel_rfl
theorem bd0 : bareD 0 = lE := e_is
theorem bd1 : bareD 1 = lB1 := by rw [bareD_succ, bd0, b1_is]
theorem bd2 : bareD 2 = lB2 := by rw [bareD_succ, bd1, b2_is]
theorem bd3 : bareD 3 = lB3 := by rw [bareD_succ, bd2, b3_is]
theorem bd4 : bareD 4 = lB4 := by rw [bareD_succ, bd3, b4_is]
theorem on1 : nodeD oneT 1 2 = lM1 := by
  have h := node_step oneT 5 0
  rw [if_neg (by decide), one_bes, one_leaf, bd0, a_is, m1_is] at h
  exact h
theorem on2 : nodeD oneT 2 1 = lM2 := by
  have h := node_step oneT 5 1
  rw [if_pos (by decide), one_bes, show nodeD oneT 1 (5 / 2 ^ 1) = lM1 from on1, bd1, m2_is] at h
  exact h
theorem on3 : nodeD oneT 3 0 = lM3 := by
  have h := node_step oneT 5 2
  rw [if_neg (by decide), one_bes, show nodeD oneT 2 (5 / 2 ^ 2) = lM2 from on2, bd2, m3_is] at h
  exact h
theorem one_root : rootD oneT = lM4 := by
  have h := node_step oneT 5 3
  rw [if_pos (by decide), one_bes, show nodeD oneT 3 (5 / 2 ^ 3) = lM3 from on3, bd3, m4_is] at h
  exact h
/-- The two roots aren't the same. -/
theorem roots_ne : rootD oneT ≠ rootD bare := by
  rw [one_root, bare_root, bd4]
  intro h
  have := congrArg (fun l : List Nat => l.getD 0 0) h
  revert this
  decide
theorem one_drop : setT oneT 5 none = bare := by
  funext i
  unfold setT oneT setT
  split
  · rfl
  · rfl
end Go.Proofs.YtaihhbiocolhcaaDoor.Tr

/-
  Maps keyed by int, block by block: what stands at each place ('IMap'), and what a look-up, a store, a delete, the length and a range over it do. Over whatever program.
-/
namespace Go.Proofs.YtaihhbiocolhcaaDoor.Im
open Go.RowKit Go.MapKept Go.Proofs.YtaihhbiocolhcaaDoor.Mem
open Go.Maps (Keyed int_keyed keyOf_int_mk)
open Go.ChangeMaps (setBlock)
set_option linter.unusedVariables false
set_option linter.unusedSimpArgs false

section
variable {α : Type} {P : Program}
/-- A number that an int can be. -/
abbrev Is64 (p : Int) : Prop := (Lit.int .i64 p).wf = true
/-- What stands at a place that may be far off. -/
def atI (m : Nat → Option α) (p : Int) : Option α := if 0 ≤ p then m p.toNat else none
def setM (m : Nat → Option α) (k : Nat) (o : Option α) : Nat → Option α := fun i => if i = k then o else m i
def delI (m : Nat → Option α) (p : Int) : Nat → Option α := fun i => if (i : Int) = p then none else m i
def valO (z : Value) (V : α → Value) : Option α → Value
  | some a => V a
  | none => z
theorem atI_nat (m : Nat → Option α) (k : Nat) : atI m (k : Int) = m k := by simp [atI]
theorem atI_some {m : Nat → Option α} {p : Int} {a : α} (h : atI m p = some a) : ∃ k : Nat, p = (k : Int) ∧ m k = some a := by
  unfold atI at h
  split at h
  · rename_i hp
    exact ⟨p.toNat, by omega, h⟩
  · cases h
/-- The entries hold just what stands at the places. -/
structure Ents (V : α → Value) (es : Array MapEntry) (m : Nat → Option α) : Prop where
  of : ∀ x ∈ es.toList, ∃ (k : Nat) (a : α), x.key = .int .i64 (k : Int) ∧ Is64 (k : Int) ∧ x.val = V a ∧ m k = some a
  has : ∀ (k : Nat) (a : α), m k = some a → ∃ x ∈ es.toList, x.key = .int .i64 (k : Int)
structure IMap (w : World) (b : Nat) (V : α → Value) (m : Nat → Option α) : Prop where
  ex : ∃ es clock, w.heap[b]? = some (.map es clock) ∧ Stamped es clock ∧ Ents V es m
variable {w w' : World} {b r : Nat} {V : α → Value} {m : Nat → Option α}
theorem IMap.lt (h : IMap w b V m) : b < w.heap.size := by
  obtain ⟨es, clock, hb, _⟩ := h.ex
  exact (Array.getElem?_eq_some_iff.1 hb).1
theorem IMap.of_block (h : IMap w b V m) (e : w'.heap[b]? = w.heap[b]?) : IMap w' b V m := by
  obtain ⟨es, clock, hb, he⟩ := h.ex
  exact ⟨es, clock, e.trans hb, he⟩
theorem IMap.below {n : Nat} (h : IMap w b V m) (hb : Below n w w') (hn : b < n) : IMap w' b V m := h.of_block (hb.block b hn)
theorem IMap.old (h : IMap w b V m) (hb : Below w.heap.size w w') : IMap w' b V m := h.below hb h.lt
theorem IMap.only {c : Nat} (h : IMap w b V m) (ho : Only c w w') (hn : b ≠ c) : IMap w' b V m := h.of_block (ho.block b h.lt hn)
theorem IMap.congr {m' : Nat → Option α} (h : IMap w b V m) (e : m = m') : IMap w b V m' := e ▸ h
theorem IMap.row {t : TypeId} {cs : List Value} {c : Nat} (h : IMap w b V m) (g : Row w c t cs) : b ≠ c := by
  rintro rfl
  obtain ⟨es, clock, hb, _⟩ := h.ex
  have := hb.symm.trans (show w.heap[b]? = _ from g)
  cases this
theorem iMap_made (w : World) (V : α → Value) : IMap (w.alloc (.map #[] 0)) w.heap.size V (fun _ => none) :=
  ⟨#[], 0, (MapKept.heap_alloc w _).1, stamped_empty 0, ⟨fun x hx => by simp at hx, fun k a h => by cases h⟩⟩
theorem Ents.keys {es : Array MapEntry} (E : Ents V es m) {kt : TypeId} (hk : P.underlying kt = some (.int .i64)) : ∀ x ∈ es.toList, ∃ l, keyOf P kt x.key = some l := fun x hx => by
  obtain ⟨k, a, hkey, hw, _⟩ := E.of x hx
  rw [hkey]
  exact ⟨_, keyOf_int_mk hk hw⟩
theorem key_nat {k j : Nat} (h : Value.int .i64 (k : Int) = Value.int .i64 (j : Int)) : k = j := by
  simp only [Value.int.injEq, true_and] at h
  omega
theorem Ents.no {es : Array MapEntry} (E : Ents V es m) {p : Int} (h : ∀ x ∈ es.toList, x.key ≠ .int .i64 p) : atI m p = none := by
  cases hc : atI m p with
  | none => rfl
  | some a =>
    obtain ⟨k, rfl, hk⟩ := atI_some hc
    obtain ⟨x, hx, hkey⟩ := E.has k a hk
    exact absurd hkey (h x hx)
theorem Ents.yes {es : Array MapEntry} (E : Ents V es m) {p : Int} {x : MapEntry} (hx : x ∈ es.toList) (h : x.key = .int .i64 p) : ∃ (k : Nat) (a : α), p = (k : Int) ∧ m k = some a ∧ x.val = V a := by
  obtain ⟨k, a, hkey, hw, hv, hm⟩ := E.of x hx
  refine ⟨k, a, ?_, hm, hv⟩
  have := hkey.symm.trans h
  simp only [Value.int.injEq, true_and] at this
  exact this.symm
/-- 'v, ok := m[k]' and 'm[k]'. -/
theorem IMap.lookup (h : IMap w b V m) {t kt e : TypeId} (hk : P.underlying kt = some (.int .i64)) (ht : P.underlying t = some (.map kt e)) {z : Value} (hz : (zeroValue e).run P w = .ok z w) (p : Int) (hp : Is64 p) (c : Bool) :
    (Instr.lookup t (.map (some b)) (.int .i64 p) c).run P w = .ok (if c then .tuple #[valO z V (atI m p), .bool (atI m p).isSome] else valO z V (atI m p)) w := by
  obtain ⟨es, clock, hb, hs, E⟩ := h.ex
  have K := int_keyed hk
  have hkey := keyOf_int_mk hk hp
  rcases K.find w hkey es.toList (E.keys hk) with ⟨h1, h2⟩ | ⟨j, e0, h1, h2, h3⟩
  · rw [E.no h2]
    simp [Instr.lookup, run_underlying ht, MapKept.run_getObj_map hb, K.check w _ hkey, h1, hz, Result.andThen, valO]
  · obtain ⟨k, a, rfl, hm, hv⟩ := E.yes (List.mem_of_getElem? h2) h3
    rw [atI_nat, hm]
    simp [Instr.lookup, run_underlying ht, MapKept.run_getObj_map hb, K.check w _ hkey, h1, Result.andThen, valO, hv]
theorem other_key' {es : Array MapEntry} {clock : Nat} (hs : Stamped es clock) {i j : Nat} {x y : MapEntry} (hx : es.toList[i]? = some x) (hy : es.toList[j]? = some y) (hn : i ≠ j) : x.key ≠ y.key := by
  have hp := ((stamped_iff es clock).1 hs).2.2
  rw [List.pairwise_iff_getElem] at hp
  obtain ⟨hi, rfl⟩ := List.getElem?_eq_some_iff.1 hx
  obtain ⟨hj, rfl⟩ := List.getElem?_eq_some_iff.1 hy
  rcases Nat.lt_or_gt_of_ne hn with g | g
  · exact hp i j hi hj g
  · exact (hp j i hj hi g).symm
theorem setM_here (m : Nat → Option α) (k : Nat) (o : Option α) : setM m k o k = o := if_pos rfl
theorem setM_other {m : Nat → Option α} {k i : Nat} {o : Option α} (h : i ≠ k) : setM m k o i = m i := if_neg h
/-- 'm[k] = v'. -/
theorem IMap.store (h : IMap w b V m) {t kt e : TypeId} (hk : P.underlying kt = some (.int .i64)) (ht : P.underlying t = some (.map kt e)) (k : Nat) (hw : Is64 (k : Int)) (a : α) :
    ∃ w', (Instr.mapUpdate t (.map (some b)) (.int .i64 (k : Int)) (V a)).run P w = .ok () w' ∧ IMap w' b V (setM m k (some a)) ∧ Only b w w' ∧ w'.heap.size = w.heap.size := by
  obtain ⟨es, clock, hb, hs, E⟩ := h.ex
  have K := int_keyed hk
  have hkey := keyOf_int_mk hk hw
  have hlt := (Array.getElem?_eq_some_iff.1 hb).1
  have ow : ∀ o, Only b w (setBlock w b o) := fun o => ⟨rfl, rfl, rfl, by simp [setBlock], fun i _ hn => by simp only [setBlock, Array.getElem?_setIfInBounds, if_neg (Ne.symm hn)]⟩
  have at_b : ∀ o, (setBlock w b o).heap[b]? = some o := fun o => by simp [setBlock, hlt]
  rcases K.find w hkey es.toList (E.keys hk) with ⟨h1, h2⟩ | ⟨j, e0, h1, h2, h3⟩
  · refine ⟨setBlock w b (.map (es.push ⟨.int .i64 (k : Int), V a, clock⟩) (clock + 1)), ?_, ⟨_, _, at_b _, stamped_push hs h2, ⟨?_, ?_⟩⟩, ow _, by simp [setBlock]⟩
    · simp [Instr.mapUpdate, run_underlying ht, MapKept.run_getObj_map hb, K.check w false hkey, h1, MapKept.run_setObj_map _ hb, Result.andThen, setBlock]
    · intro x hx
      simp only [Array.toList_push, List.mem_append, List.mem_singleton] at hx
      rcases hx with hx | rfl
      · obtain ⟨k', a', g1, g2, g3, g4⟩ := E.of x hx
        exact ⟨k', a', g1, g2, g3, by rw [setM_other (fun ee => h2 x hx (by rw [g1, ee]))]; exact g4⟩
      · exact ⟨k, a, rfl, hw, rfl, setM_here _ _ _⟩
    · intro k' a' hm
      simp only [Array.toList_push, List.mem_append, List.mem_singleton]
      by_cases he : k' = k
      · subst he
        exact ⟨_, Or.inr rfl, rfl⟩
      · rw [setM_other he] at hm
        obtain ⟨x, hx, g⟩ := E.has k' a' hm
        exact ⟨x, Or.inl hx, g⟩
  · have hj : es[j]? = some e0 := by simpa using h2
    have hjl : j < es.toList.length := (List.getElem?_eq_some_iff.1 h2).1
    have hkeyf : ∀ e', es[j]? = some e' → ({ e' with key := .int .i64 (k : Int), val := V a } : MapEntry).key = e'.key := fun e' he' => by rw [hj] at he'; cases he'; exact h3.symm
    have hlist : (es.modify j (fun e' => { e' with key := .int .i64 (k : Int), val := V a })).toList = es.toList.set j { e0 with key := .int .i64 (k : Int), val := V a } := by rw [Array.toList_modify, ChangeMaps.modify_eq_set _ _ _ _ h2]
    have who : ∀ x ∈ es.toList.set j { e0 with key := .int .i64 (k : Int), val := V a }, x = { e0 with key := .int .i64 (k : Int), val := V a } ∨ (x ∈ es.toList ∧ x.key ≠ .int .i64 (k : Int)) := by
      intro x hx
      obtain ⟨i, hi, ex⟩ := List.getElem_of_mem hx
      rw [List.getElem_set] at ex
      split at ex
      · exact Or.inl ex.symm
      · rename_i hne
        have hi' : i < es.toList.length := by simpa using hi
        refine Or.inr ⟨ex ▸ List.getElem_mem hi', ?_⟩
        rw [← h3]
        exact other_key' hs (by rw [List.getElem?_eq_getElem hi', ex]) h2 (fun e1 => hne e1.symm)
    refine ⟨setBlock w b (.map (es.modify j (fun e' => { e' with key := .int .i64 (k : Int), val := V a })) clock), ?_, ⟨_, _, at_b _, stamped_modify hs _ _ (fun _ _ => rfl) (fun e' _ he' => hkeyf e' he'), ⟨?_, ?_⟩⟩, ow _, by simp [setBlock]⟩
    · simp [Instr.mapUpdate, run_underlying ht, MapKept.run_getObj_map hb, K.check w false hkey, h1, hj, h3, K.stays w hkey, MapKept.run_setObj_map _ hb, Result.andThen, setBlock]
    · intro x hx
      rw [hlist] at hx
      rcases who x hx with rfl | ⟨hx', hne⟩
      · exact ⟨k, a, rfl, hw, rfl, setM_here _ _ _⟩
      · obtain ⟨k', a', g1, g2, g3, g4⟩ := E.of x hx'
        exact ⟨k', a', g1, g2, g3, by rw [setM_other (fun ee => hne (by rw [g1, ee]))]; exact g4⟩
    · intro k' a' hm
      rw [hlist]
      by_cases he : k' = k
      · subst he
        exact ⟨{ e0 with key := .int .i64 (k' : Int), val := V a }, List.mem_iff_getElem.2 ⟨j, by simpa using hjl, by simp⟩, rfl⟩
      · rw [setM_other he] at hm
        obtain ⟨x, hx, g⟩ := E.has k' a' hm
        obtain ⟨i, hi, ex⟩ := List.getElem_of_mem hx
        refine ⟨x, List.mem_iff_getElem.2 ⟨i, by simpa using hi, ?_⟩, g⟩
        rw [List.getElem_set, if_neg, ex]
        rintro rfl
        have : x = e0 := by rw [List.getElem?_eq_getElem hi, ex] at h2; exact Option.some.inj h2
        subst this
        exact he (key_nat (g.symm.trans h3))
/-- 'delete(m, k)'. -/
theorem IMap.drop (h : IMap w b V m) {t kt e : TypeId} (hk : P.underlying kt = some (.int .i64)) (ht : P.underlying t = some (.map kt e)) (ty : TypeId) (p : Int) (hp : Is64 p) :
    ∃ w', (Builtin.delete_ #[t, kt] ty #[.map (some b), .int .i64 p]).run P w = .ok (.tuple #[]) w' ∧ IMap w' b V (delI m p) ∧ Only b w w' ∧ w'.heap.size = w.heap.size := by
  obtain ⟨es, clock, hb, hs, E⟩ := h.ex
  have K := int_keyed hk
  have hkey := keyOf_int_mk hk hp
  have hlt := (Array.getElem?_eq_some_iff.1 hb).1
  have ow : ∀ o, Only b w (setBlock w b o) := fun o => ⟨rfl, rfl, rfl, by simp [setBlock], fun i _ hn => by simp only [setBlock, Array.getElem?_setIfInBounds, if_neg (Ne.symm hn)]⟩
  have at_b : ∀ o, (setBlock w b o).heap[b]? = some o := fun o => by simp [setBlock, hlt]
  rcases K.find w hkey es.toList (E.keys hk) with ⟨h1, h2⟩ | ⟨j, e0, h1, h2, h3⟩
  · refine ⟨setBlock w b (.map es clock), ?_, ⟨es, clock, at_b _, hs, ?_⟩, ow _, by simp [setBlock]⟩
    · simp [Builtin.delete_, run_underlying ht, MapKept.run_getObj_map hb, K.check w _ hkey, h1, MapKept.run_setObj_map _ hb, Result.andThen, setBlock]
    · have : delI m p = m := by
        funext i
        unfold delI
        split
        · rename_i hi
          have := E.no h2
          rw [← hi, atI_nat] at this
          exact this.symm
        · rfl
      rw [this]
      exact E
  · have hjl : j < es.toList.length := (List.getElem?_eq_some_iff.1 h2).1
    have hjs : j < es.size := by simpa using hjl
    have hsub : (es.eraseIdxIfInBounds j).toList = es.toList.eraseIdx j := by
      unfold Array.eraseIdxIfInBounds
      rw [dif_pos hjs]
      simp
    refine ⟨setBlock w b (.map (es.eraseIdxIfInBounds j) clock), ?_, ⟨_, _, at_b _, stamped_erase hs j, ⟨?_, ?_⟩⟩, ow _, by simp [setBlock]⟩
    · simp [Builtin.delete_, run_underlying ht, MapKept.run_getObj_map hb, K.check w _ hkey, h1, MapKept.run_setObj_map _ hb, Result.andThen, setBlock]
    · intro x hx
      rw [hsub] at hx
      obtain ⟨i, hne, hi⟩ := List.mem_eraseIdx_iff_getElem?.1 hx
      obtain ⟨k', a', g1, g2, g3, g4⟩ := E.of x (List.mem_of_getElem? hi)
      refine ⟨k', a', g1, g2, g3, ?_⟩
      unfold delI
      rw [if_neg]
      · exact g4
      · intro ee
        exact other_key' hs hi h2 hne (by rw [g1, h3, ee])
    · intro k' a' hm
      unfold delI at hm
      split at hm
      · cases hm
      · rename_i he
        obtain ⟨x, hx, g⟩ := E.has k' a' hm
        refine ⟨x, ?_, g⟩
        rw [hsub]
        obtain ⟨i, hi⟩ := List.mem_iff_getElem?.1 hx
        refine List.mem_eraseIdx_iff_getElem?.2 ⟨i, ?_, hi⟩
        rintro rfl
        rw [hi] at h2
        cases h2
        have := g.symm.trans h3
        simp only [Value.int.injEq, true_and] at this
        exact he this
/-- How many of the first n places have something. -/
def cntM (m : Nat → Option α) : Nat → Nat
  | 0 => 0
  | n + 1 => cntM m n + if (m n).isSome then 1 else 0
theorem cntM_filter (m : Nat → Option α) : ∀ n, ((List.range n).filter fun k => (m k).isSome).length = cntM m n
  | 0 => rfl
  | n + 1 => by
    rw [List.range_succ, List.filter_append, List.length_append, cntM_filter m n, show cntM m (n + 1) = cntM m n + if (m n).isSome then 1 else 0 from rfl]
    cases hc : (m n).isSome <;> simp [hc]
theorem Ents.size {es : Array MapEntry} {clock : Nat} (E : Ents V es m) (hs : Stamped es clock) (n : Nat) (hn : ∀ k a, m k = some a → k < n) : es.size = cntM m n := by
  rw [← cntM_filter]
  have hp : (es.toList.map (·.key)).Perm (((List.range n).filter fun k => (m k).isSome).map fun (k : Nat) => Value.int .i64 (k : Int)) := by
    refine (List.perm_ext_iff_of_nodup ?_ ?_).2 fun v => ?_
    · rw [List.Nodup, List.pairwise_map]
      exact ((stamped_iff es clock).1 hs).2.2
    · rw [List.Nodup, List.pairwise_map]
      refine (List.nodup_range.filter _).imp fun {x y} hxy e => hxy (key_nat e)
    · simp only [List.mem_map, List.mem_filter, List.mem_range]
      constructor
      · rintro ⟨x, hx, rfl⟩
        obtain ⟨k, a, g1, _, _, g4⟩ := E.of x hx
        exact ⟨k, ⟨hn k a g4, by rw [g4]; rfl⟩, g1.symm⟩
      · rintro ⟨k, ⟨_, hk⟩, rfl⟩
        obtain ⟨a, ha⟩ := Option.isSome_iff_exists.1 hk
        obtain ⟨x, hx, g⟩ := E.has k a ha
        exact ⟨x, hx, g⟩
  have := hp.length_eq
  simpa using this
/-- 'len(m)'. -/
theorem IMap.len (h : IMap w b V m) {t kt e : TypeId} (ht : P.underlying t = some (.map kt e)) (ty : TypeId) (n : Nat) (hn : ∀ k a, m k = some a → k < n) :
    (Builtin.len_ #[t] ty #[.map (some b)]).run P w = .ok (.int .i64 (cntM m n : Int)) w := by
  obtain ⟨es, clock, hb, hs, E⟩ := h.ex
  simp [Builtin.len_, run_underlying ht, MapKept.run_getObj_map hb, goInt, E.size hs n hn]
/-! ### 'for k := range m' -/
/-- Block r ranges over the map of block b: of what has come, D holds; cnt are still to come. -/
structure Iter (w : World) (b r : Nat) (V : α → Value) (m : Nat → Option α) (D : Nat → Prop) (cnt : Nat) : Prop where
  ex : ∃ es clock since seen c0, w.heap[b]? = some (.map es clock) ∧ Stamped es clock ∧ Ents V es m ∧ w.heap[r]? = some (.mapIter (some b) since seen c0) ∧ (∀ x ∈ es.toList, x.born < since) ∧ since ≤ c0 ∧ since ≤ clock ∧
    (leftOf es seen).size = cnt ∧ ∀ x ∈ es.toList, seen.contains x.born = true → ∀ k : Nat, x.key = .int .i64 (k : Int) → D k
variable {D : Nat → Prop} {cnt : Nat}
theorem Iter.imap (h : Iter w b r V m D cnt) : IMap w b V m := by
  obtain ⟨es, clock, since, seen, c0, hb, hs, E, _⟩ := h.ex
  exact ⟨es, clock, hb, hs, E⟩
theorem Iter.lt (h : Iter w b r V m D cnt) : r < w.heap.size := by
  obtain ⟨es, clock, since, seen, c0, _, _, _, hr, _⟩ := h.ex
  exact (Array.getElem?_eq_some_iff.1 hr).1
theorem Iter.old (h : Iter w b r V m D cnt) (hb' : Below w.heap.size w w') : Iter w' b r V m D cnt := by
  have h1 := h.imap.lt
  have h2 := h.lt
  obtain ⟨es, clock, since, seen, c0, hb, hs, E, hr, rest⟩ := h.ex
  exact ⟨es, clock, since, seen, c0, (hb'.block b h1).trans hb, hs, E, (hb'.block r h2).trans hr, rest⟩
theorem Iter.left_eq (h : Iter w b r V m D cnt) : w.rangeLeft b r = cnt := by
  obtain ⟨es, clock, since, seen, c0, hb, _, _, hr, _, _, _, hc, _⟩ := h.ex
  simp only [World.rangeLeft, hb, hr]
  exact hc
theorem IMap.range (h : IMap w b V m) {t kt e : TypeId} (ht : P.underlying t = some (.map kt e)) (D : Nat → Prop) :
    ∃ w' cnt, (Instr.range t (.map (some b))).run P w = .ok (.pointer (some ⟨w.heap.size, 0, none⟩)) w' ∧ Iter w' b w.heap.size V m D cnt ∧ New w w' := by
  have hlt := h.lt
  obtain ⟨es, clock, hb, hs, E⟩ := h.ex
  refine ⟨_, _, run_range_map w t kt e b es clock ht hb, ⟨es, clock, clock, #[], clock, ((MapKept.heap_alloc w _).2 b hlt).trans hb, hs, E, (MapKept.heap_alloc w _).1, ((stamped_iff es clock).1 hs).1, Nat.le_refl _, Nat.le_refl _, rfl, ?_⟩, new_alloc _ _⟩
  intro x hx hc
  simp at hc
theorem Iter.next (h : Iter w b r V m D cnt) (ty : TypeId) :
    ((∀ k a, m k = some a → D k) ∧ (Instr.next (.pointer (some ⟨r, 0, none⟩)) false ty).run P w = .ok (.tuple #[.bool false]) w) ∨
    ∃ (k : Nat) (a : α) (w' : World), m k = some a ∧ Is64 (k : Int) ∧ (Instr.next (.pointer (some ⟨r, 0, none⟩)) false ty).run P w = .ok (.tuple #[.bool true, .int .i64 (k : Int), V a]) w' ∧
      (D k → ∃ cnt', Iter w' b r V m D cnt' ∧ cnt' < cnt) ∧ IMap w' b V m ∧ Only r w w' ∧ w'.heap.size = w.heap.size ∧ (Instr.entry (.pointer (some ⟨r, 0, none⟩))).run P w' = .ok (.tuple #[.int .i64 (k : Int), V a]) w' := by
  have h1 := h.imap.lt
  obtain ⟨es, clock, since, seen, c0, hb, hs, E, hr, hold, hsc, hsk, rfl, hD⟩ := h.ex
  have hst := (stamped_iff es clock).1 hs
  rcases run_next_at (P := P) w ty r b since c0 seen es clock hr hb hold hsc with ⟨h0, hrun⟩ | ⟨e, he, w1, hal, hrun⟩
  · refine Or.inl ⟨fun k a hm => ?_, hrun⟩
    obtain ⟨x, hx, hkey⟩ := E.has k a hm
    exact hD x hx (all_seen es seen h0 x hx) k hkey
  · have hml := mem_left he
    obtain ⟨k, a, g1, g2, g3, g4⟩ := E.of e hml.1
    rw [g1, g3] at hrun
    have hne : b ≠ r := by
      rintro rfl
      rw [hb] at hr
      cases hr
    have hrl := (Array.getElem?_eq_some_iff.1 hr).1
    have hb1 : w1.heap[b]? = some (.map es clock) := by rcases hal with rfl | rfl <;> exact hb
    have hs1 : w1.heap.size = w.heap.size := by rcases hal with rfl | rfl <;> rfl
    have hb2 : (setBlock w1 r (.mapIter (some b) since (seen.push e.born) clock)).heap[b]? = some (.map es clock) := by
      simp only [setBlock, Array.getElem?_setIfInBounds, if_neg (Ne.symm hne)]; exact hb1
    have hr2 : (setBlock w1 r (.mapIter (some b) since (seen.push e.born) clock)).heap[r]? = some (.mapIter (some b) since (seen.push e.born) clock) := by
      simp [setBlock, hs1, hrl]
    refine Or.inr ⟨k, a, _, g4, g2, hrun, fun hk => ⟨_, ⟨es, clock, since, seen.push e.born, clock, hb2, hs, E, hr2, hold, hsk, hsk, rfl, ?_⟩, left_shrinks es seen e he⟩, ⟨es, clock, hb2, hs, E⟩, ?_, by simp [setBlock, hs1], ?_⟩
    · intro x hx hc k' hk'
      rw [Array.contains_push] at hc
      rcases Bool.or_eq_true_iff.1 hc with hc | hc
      · exact hD x hx hc k' hk'
      · have heq : x.born = e.born := by simpa using hc
        have hxe : x = e := born_inj hst.2.1 hx hml.1 heq
        subst hxe
        obtain rfl := key_nat (hk'.symm.trans g1)
        exact hk
    · refine ⟨?_, ?_, ?_, by simp [setBlock, hs1], fun i hi hn => ?_⟩
      · rcases hal with rfl | rfl <;> rfl
      · rcases hal with rfl | rfl <;> rfl
      · rcases hal with rfl | rfl <;> rfl
      · simp only [setBlock, Array.getElem?_setIfInBounds, if_neg (Ne.symm hn)]
        rcases hal with rfl | rfl <;> rfl
    · have := run_entry_at (P := P) _ r b since seen es clock e hr2 hb2 hml.1 hst.2.1
      rw [g1, g3] at this
      exact this
end
section
variable {P : Program} {ops : Array Oper} {rest : List Oper} {o : Oper} {a : Act} {w : World} {Q : Exit → Act → World → Prop}
variable {α : Type} {b r : Nat} {V : α → Value} {m : Nat → Option α}
theorem run_op_lookupI (t : TypeId) (x y : Operand) (c : Bool) (ho : o.op = .lookup t x y c) (hx : a.eval x = .map (some b)) (p : Int) (hy : a.eval y = .int .i64 p) (h : IMap w b V m) {kt e : TypeId} (hk : P.underlying kt = some (.int .i64)) (ht : P.underlying t = some (.map kt e))
    (z : Value) (hz : (zeroValue e).run P w = .ok z w) (hp : Is64 p) : (execOp a.eval o).run P w = .ok (.value (if c then .tuple #[valO z V (atI m p), .bool (atI m p).isSome] else valO z V (atI m p))) w := by
  unfold execOp
  simp only [ho, hx, hy, Sem.run_bind, h.lookup hk ht hz p hp c, Result.andThen_ok, Sem.run_pure]
theorem run_op_lenI (t : TypeId) (x : Operand) (ho : o.op = .call { callee := .builtin .len, args := #[x], argTypes := #[t] }) (hx : a.eval x = .map (some b)) (h : IMap w b V m) {kt e : TypeId} (ht : P.underlying t = some (.map kt e)) (n : Nat) (hn : ∀ k a, m k = some a → k < n) :
    (execOp a.eval o).run P w = .ok (.value (.int .i64 (cntM m n : Int))) w := by
  unfold execOp
  simp [ho, resolve, invoke, builtin, hx, h.len ht o.type n hn, Result.andThen]
theorem run_op_updateI (t : TypeId) (x y v : Operand) (ho : o.op = .mapUpdate t x y v) (hx : a.eval x = .map (some b)) (k : Nat) (hy : a.eval y = .int .i64 (k : Int)) (u : α) (hv : a.eval v = V u) (h : IMap w b V m) {kt e : TypeId} (hk : P.underlying kt = some (.int .i64)) (ht : P.underlying t = some (.map kt e)) (hw : Is64 (k : Int)) :
    ∃ w', (execOp a.eval o).run P w = .ok .skip w' ∧ IMap w' b V (setM m k (some u)) ∧ Only b w w' ∧ w'.heap.size = w.heap.size := by
  obtain ⟨w', hr, h1, h2, h3⟩ := h.store hk ht k hw u
  refine ⟨w', ?_, h1, h2, h3⟩
  unfold execOp
  simp only [ho, hx, hy, hv, Sem.run_bind, hr, Result.andThen_ok, Sem.run_pure]
theorem run_op_deleteI (t kt : TypeId) (x y : Operand) (ho : o.op = .call { callee := .builtin .delete, args := #[x, y], argTypes := #[t, kt] }) (hx : a.eval x = .map (some b)) (p : Int) (hy : a.eval y = .int .i64 p) (h : IMap w b V m) {e : TypeId} (hk : P.underlying kt = some (.int .i64)) (ht : P.underlying t = some (.map kt e)) (hp : Is64 p) :
    ∃ w', (execOp a.eval o).run P w = .ok (.value (.tuple #[])) w' ∧ IMap w' b V (delI m p) ∧ Only b w w' ∧ w'.heap.size = w.heap.size := by
  obtain ⟨w', hr, h1, h2, h3⟩ := h.drop hk ht o.type p hp
  refine ⟨w', ?_, h1, h2, h3⟩
  unfold execOp
  simp [ho, resolve, invoke, builtin, hx, hy, hr, Result.andThen]
theorem arm_lookupI (hgd : o.guard = none) (t : TypeId) (x y : Operand) (c : Bool) (ho : o.op = .lookup t x y c) (hx : a.eval x = .map (some b)) (p : Int) (hy : a.eval y = .int .i64 p) (hm : IMap w b V m) {kt e : TypeId} (hk : P.underlying kt = some (.int .i64)) (ht : P.underlying t = some (.map kt e))
    (z : Value) (hz : (zeroValue e).run P w = .ok z w) (hp : Is64 p) (u : Value) (hu : (if c then .tuple #[valO z V (atI m p), .bool (atI m p).isSome] else valO z V (atI m p)) = u) (h : wpList P ops Q rest (a.put o.dst u) w) : wpList P ops Q (o :: rest) a w := by
  subst hu
  refine wpList_plain hgd fun K' hK => ?_
  unfold Oper.wp
  rw [run_op_lookupI t x y c ho hx p hy hm hk ht z hz hp]
  exact hK _ _ h
theorem arm_lenI (hgd : o.guard = none) (t : TypeId) (x : Operand) (ho : o.op = .call { callee := .builtin .len, args := #[x], argTypes := #[t] }) (hx : a.eval x = .map (some b)) (hm : IMap w b V m) {kt e : TypeId} (ht : P.underlying t = some (.map kt e)) (n : Nat) (hn : ∀ k a, m k = some a → k < n)
    (h : wpList P ops Q rest (a.put o.dst (.int .i64 (cntM m n : Int))) w) : wpList P ops Q (o :: rest) a w := by
  refine wpList_plain hgd fun K' hK => ?_
  unfold Oper.wp
  rw [run_op_lenI t x ho hx hm ht n hn]
  exact hK _ _ h
theorem arm_updateI (hgd : o.guard = none) (t : TypeId) (x y v : Operand) (ho : o.op = .mapUpdate t x y v) (hx : a.eval x = .map (some b)) (k : Nat) (hy : a.eval y = .int .i64 (k : Int)) (u : α) (hv : a.eval v = V u) (hm : IMap w b V m) {kt e : TypeId} (hk : P.underlying kt = some (.int .i64)) (ht : P.underlying t = some (.map kt e)) (hw : Is64 (k : Int))
    (h : ∀ w', IMap w' b V (setM m k (some u)) → Only b w w' → Hid (w'.heap.size = w.heap.size) → wpList P ops Q rest (a.put o.dst undef) w') : wpList P ops Q (o :: rest) a w := by
  refine wpList_plain hgd fun K' hK => ?_
  obtain ⟨w', hr, h1, h2, h3⟩ := run_op_updateI t x y v ho hx k hy u hv hm hk ht hw
  unfold Oper.wp
  rw [hr]
  exact hK _ _ (h w' h1 h2 h3)
theorem arm_deleteI (hgd : o.guard = none) (t kt : TypeId) (x y : Operand) (ho : o.op = .call { callee := .builtin .delete, args := #[x, y], argTypes := #[t, kt] }) (hx : a.eval x = .map (some b)) (p : Int) (hy : a.eval y = .int .i64 p) (hm : IMap w b V m) {e : TypeId} (hk : P.underlying kt = some (.int .i64)) (ht : P.underlying t = some (.map kt e)) (hp : Is64 p)
    (h : ∀ w', IMap w' b V (delI m p) → Only b w w' → Hid (w'.heap.size = w.heap.size) → wpList P ops Q rest (a.put o.dst (.tuple #[])) w') : wpList P ops Q (o :: rest) a w := by
  refine wpList_plain hgd fun K' hK => ?_
  obtain ⟨w', hr, h1, h2, h3⟩ := run_op_deleteI t kt x y ho hx p hy hm hk ht hp
  unfold Oper.wp
  rw [hr]
  exact hK _ _ (h w' h1 h2 h3)
/-- 'make(map[int]V)'. -/
theorem arm_makeMapI (hgd : o.guard = none) (t : TypeId) (n : Option Operand) (ho : o.op = .makeMap t n) (hn : n = none) (V : α → Value)
    (h : ∀ b w2, Hid (b = w.heap.size) → IMap w2 b V (fun _ => none) → New w w2 → wpList P ops Q rest (a.put o.dst (.map (some b))) w2) : wpList P ops Q (o :: rest) a w := by
  subst hn
  refine wpList_plain hgd fun K hK => ?_
  unfold Oper.wp execOp
  simp only [ho, Option.map_none, Sem.run_bind, run_makeMap, Result.andThen_ok, Sem.run_pure]
  exact hK _ _ (h _ _ rfl (iMap_made w V) (new_alloc _ _))
/-- 'range m'. -/
theorem arm_rangeI (hgd : o.guard = none) (t : TypeId) (x : Operand) (ho : o.op = .range t x) (hx : a.eval x = .map (some b)) (hm : IMap w b V m) {kt e : TypeId} (ht : P.underlying t = some (.map kt e)) (D : Nat → Prop)
    (h : ∀ r w' cnt, Hid (r = w.heap.size) → Iter w' b r V m D cnt → New w w' → wpList P ops Q rest (a.put o.dst (.pointer (some ⟨r, 0, none⟩))) w') : wpList P ops Q (o :: rest) a w := by
  refine wpList_plain hgd fun K' hK => ?_
  obtain ⟨w', cnt, hrun, r1, r2⟩ := hm.range ht D
  unfold Oper.wp
  simp [execOp, ho, hx, hrun, Result.andThen]
  exact hK _ _ (h _ w' cnt rfl r1 r2)
/-- The step. -/
theorem arm_nextI (hgd : o.guard = none) (it : Operand) (ho : o.op = .next it false) (hit : a.eval it = .pointer (some ⟨r, 0, none⟩)) {D : Nat → Prop} {cnt : Nat} (hm : Iter w b r V m D cnt)
    (hDone : (∀ k a, m k = some a → D k) → wpList P ops Q rest (a.put o.dst (.tuple #[.bool false])) w)
    (hMore : ∀ (k : Nat) (u : α) (w' : World), m k = some u → Is64 (k : Int) → (D k → ∃ cnt', Iter w' b r V m D cnt' ∧ cnt' < cnt) → IMap w' b V m → Only r w w' → Hid (w'.heap.size = w.heap.size) →
      (Instr.entry (.pointer (some ⟨r, 0, none⟩))).run P w' = .ok (.tuple #[.int .i64 (k : Int), V u]) w' → wpList P ops Q rest (a.put o.dst (.tuple #[.bool true, .int .i64 (k : Int), V u])) w') :
    wpList P ops Q (o :: rest) a w := by
  refine wpList_plain hgd fun K' hK' => ?_
  unfold Oper.wp
  rcases hm.next (P := P) o.type with ⟨hD, hrun⟩ | ⟨k, u, w', g1, g2, hrun, g3, g4, g5, g6, g7⟩
  · simp [execOp, ho, hit, hrun, Result.andThen]
    exact hK' _ _ (hDone hD)
  · simp [execOp, ho, hit, hrun, Result.andThen]
    exact hK' _ _ (hMore k u w' g1 g2 g3 g4 g5 g6 g7)
theorem o_updateI {i : Nat} {X : Act → World → Prop} (hi : ops[i]? = some o) (hd : o.dst = none) (hg : Region.wanted o (yielded ops a.tmps) = true) (t : TypeId) (x y v : Operand) (ho : o.op = .mapUpdate t x y v) (hx : a.eval x = .map (some b)) (k : Nat) (hy : a.eval y = .int .i64 (k : Int)) (u : α) (hv : a.eval v = V u) (h : IMap w b V m) {kt e : TypeId} (hk : P.underlying kt = some (.int .i64)) (ht : P.underlying t = some (.map kt e)) (hw : Is64 (k : Int))
    (hX : ∀ w', IMap w' b V (setM m k (some u)) → Only b w w' → Hid (w'.heap.size = w.heap.size) → X a w') : wpOp P ops Q i X a w := by
  obtain ⟨w', hr, h1, h2, h3⟩ := run_op_updateI t x y v ho hx k hy u hv h hk ht hw
  exact o_skip hi hd hg hr (hX w' h1 h2 h3)
end
end Go.Proofs.YtaihhbiocolhcaaDoor.Im

/-
  Package tree's tree and the document's, as cells and maps: what stands where, what a write leaves; paths; '==' of paths. Over this seat's translation.
-/
namespace Go.Proofs.YtaihhbiocolhcaaDoor.Tr
open Go.ChangeShapes Go.WideShapes Go.ChangeAt Go.RowKit Go.Proofs.YtaihhbiocolhcaaDoor.Mem Go.Proofs.YtaihhbiocolhcaaDoor.Bt Go.Proofs.YtaihhbiocolhcaaDoor.Ac Go.Proofs.YtaihhbiocolhcaaDoor.Im
open Go.Proofs.YtaihhbiocolhcaaDoor.Ep (H32 zh zh_ok Has h_len szH zH fitH allH u8s_int)
set_option linter.unusedVariables false
set_option linter.unusedSimpArgs false

/-! ### Digests beside one another -/
def dgC (L : List (List Nat)) : List Value := L.flatMap u8s
theorem dgC_cons (x : List Nat) (L : List (List Nat)) : dgC (x :: L) = u8s x ++ dgC L := List.flatMap_cons
theorem dgC_len : ∀ (L : List (List Nat)), (∀ x ∈ L, H32 x) → (dgC L).length = L.length * 32
  | [], _ => rfl
  | x :: L, h => by
    rw [dgC_cons, List.length_append, h_len (h x (by simp)), dgC_len L (fun y hy => h y (by simp [hy])), List.length_cons]
    omega
theorem dgC_ones : ∀ L : List (List Nat), OneCells (dgC L)
  | [] => fun v hv => by cases hv
  | x :: L => by rw [dgC_cons]; exact Ep.one_app (u8s_one _) (dgC_ones L)
theorem dg_has : ∀ (L : List (List Nat)) (pre : List Value) (i : Nat) (d : List Nat), (∀ x ∈ L, H32 x) → L[i]? = some d → Has (pre ++ dgC L) (pre.length + 32 * i) (u8s d)
  | [], pre, i, d, _, hi => by simp at hi
  | x :: L, pre, 0, d, h, hi => by
    simp only [List.getElem?_cons_zero, Option.some.injEq] at hi
    subst hi
    have := (Has.refl (pre ++ dgC (x :: L))).right pre.length rfl
    rw [dgC_cons, Nat.zero_add] at this
    rw [dgC_cons]
    exact this.left
  | x :: L, pre, i + 1, d, h, hi => by
    have := dg_has L (pre ++ u8s x) i d (fun y hy => h y (by simp [hy])) (by simpa using hi)
    rw [List.append_assoc, List.length_append, h_len (h x (by simp))] at this
    rw [dgC_cons, show pre.length + 32 * (i + 1) = pre.length + 32 + 32 * i by omega]
    exact this
theorem dg_lay : ∀ (L : List (List Nat)) (pre : List Value) (i : Nat) (d : List Nat), (∀ x ∈ L, H32 x) → H32 d → i < L.length → lay (pre ++ dgC L) (pre.length + 32 * i) (u8s d) = pre ++ dgC (L.set i d)
  | [], pre, i, d, _, _, hi => by simp at hi
  | x :: L, pre, 0, d, h, hd, _ => by
    rw [dgC_cons, List.set_cons_zero, dgC_cons, lay_skip _ _ _ (32 * 0) rfl, lay_head _ _ _ (by rw [h_len hd, h_len (h x (by simp))])]
  | x :: L, pre, i + 1, d, h, hd, hi => by
    have := dg_lay L (pre ++ u8s x) i d (fun y hy => h y (by simp [hy])) hd (by simpa using hi)
    rw [List.append_assoc, List.length_append, h_len (h x (by simp))] at this
    rw [dgC_cons, List.set_cons_succ, dgC_cons, show pre.length + 32 * (i + 1) = pre.length + 32 + 32 * i by omega, this, List.append_assoc]
theorem dgC_inj : ∀ (L M : List (List Nat)), (∀ x ∈ L, H32 x) → (∀ x ∈ M, H32 x) → L.length = M.length → dgC L = dgC M → L = M
  | [], [], _, _, _, _ => rfl
  | [], y :: M, _, _, h, _ => by simp at h
  | x :: L, [], _, _, h, _ => by simp at h
  | x :: L, y :: M, hl, hm, h, e => by
    rw [dgC_cons, dgC_cons] at e
    obtain ⟨e1, e2⟩ := List.append_inj e (by rw [h_len (hl x (by simp)), h_len (hm y (by simp))])
    rw [u8s_same e1, dgC_inj L M (fun z hz => hl z (by simp [hz])) (fun z hz => hm z (by simp [hz])) (by simpa using h) e2]
where
  u8s_same {a b : List Nat} (h : u8s a = u8s b) : a = b := by
    unfold u8s at h
    refine List.map_inj_right (fun x y e => ?_) |>.1 h
    simp only [Value.int.injEq, true_and] at e
    omega
theorem all_set {L : List (List Nat)} (h : ∀ x ∈ L, H32 x) {d : List Nat} (hd : H32 d) (i : Nat) : ∀ x ∈ L.set i d, H32 x := fun x hx => by
  rcases List.mem_or_eq_of_mem_set hx with g | rfl
  · exact h x g
  · exact hd
/-! ### The project's tree -/
def z5 : List (List Nat) := [zh, zh, zh, zh, zh]
def b5 : List (List Nat) := [bareD 0, bareD 1, bareD 2, bareD 3, bareD 4]
theorem z5_ok : ∀ x ∈ z5, H32 x := by
  intro x hx
  simp only [z5, List.mem_cons, List.not_mem_nil, or_false, or_self] at hx
  exact hx ▸ zh_ok
theorem b5_ok : ∀ x ∈ b5, H32 x := by
  intro x hx
  simp only [b5, List.mem_cons, List.not_mem_nil, or_false] at hx
  rcases hx with rfl | rfl | rfl | rfl | rfl <;> exact bareD_ok _
theorem b5_get {h : Nat} (k : h ≤ 4) : b5[h]? = some (bareD h) := by
  obtain rfl | rfl | rfl | rfl | rfl : h = 0 ∨ h = 1 ∨ h = 2 ∨ h = 3 ∨ h = 4 := by omega
  all_goals rfl
def tcs (mb : Nat) (L : List (List Nat)) : List Value := [.map (some mb)] ++ dgC L
def VA (a : Acct) : Value := .agg (acs a).toArray
/-- Every place's account may be; there are 16 places. -/
def Good (t : Tree) : Prop := ∀ k a, t k = some a → k < 16 ∧ a.Ok ∧ NRt a.nm
theorem good_bare : Good bare := fun k a h => by cases h
structure TrAt (w : World) (B mb : Nat) (t : Tree) : Prop where
  row : Row w B 81 (tcs mb b5)
  map : IMap w mb VA t
section
variable {w w' : World} {B mb : Nat} {t : Tree}
theorem TrAt.ne (h : TrAt w B mb t) : mb ≠ B := h.map.row h.row
theorem TrAt.lt (h : TrAt w B mb t) : B < w.heap.size := h.row.lt
theorem TrAt.mlt (h : TrAt w B mb t) : mb < w.heap.size := h.map.lt
theorem TrAt.old (h : TrAt w B mb t) (hb : Below w.heap.size w w') : TrAt w' B mb t := ⟨h.row.old hb, h.map.old hb⟩
theorem TrAt.only {c : Nat} (h : TrAt w B mb t) (ho : Only c w w') (h1 : B ≠ c) (h2 : mb ≠ c) : TrAt w' B mb t := ⟨h.row.only ho h1, h.map.only ho h2⟩
theorem TrAt.congr {u : Tree} (h : TrAt w B mb t) (e : t = u) : TrAt w B mb u := e ▸ h
theorem TrAt.bdig (h : TrAt w B mb t) {i : Nat} (k : i ≤ 4) : w.rangeAt B (1 + 32 * i) (u8s (bareD i)) :=
  (show Has (tcs mb b5) (1 + 32 * i) (u8s (bareD i)) from dg_has b5 [.map (some mb)] i (bareD i) b5_ok (b5_get k)).range h.row
theorem TrAt.c0 (h : TrAt w B mb t) : w.cell? ⟨B, 0, none⟩ = some (.map (some mb)) := h.row.cell rfl
end
theorem und_map : Tryd.prog.underlying 78 = some (.map 3 27) := by kernel_rfl
theorem und_int : Tryd.prog.underlying 3 = some (.int .i64) := by kernel_rfl
theorem zero_acc (w : World) : (zeroValue 27).run Tryd.prog w = .ok (VA za) w := by kernel_rfl
theorem val_acc (o : Option Acct) : valO (VA za) VA o = .agg (acs (o.getD za)).toArray := by cases o <;> rfl
/-- What Set and Drop leave. -/
def SetOk (p : Int) (a : Acct) : Prop := (0 ≤ p ∧ p < 16) ∧ NRt a.nm
instance (p : Int) (a : Acct) : Decidable (SetOk p a) := inferInstanceAs (Decidable (_ ∧ _))
def setR (t : Tree) (p : Int) (a : Acct) : Tree := if SetOk p a then setT t p.toNat (some a) else t
def setE (p : Int) (a : Acct) : Nat := if SetOk p a then 0 else 1
def dropR (t : Tree) (p : Int) : Tree := delI t p
theorem good_set {t : Tree} (h : Good t) (p : Int) {a : Acct} (k : a.Ok) : Good (setR t p a) := by
  unfold setR
  split
  · rename_i hs
    intro i b hb
    unfold setT at hb
    split at hb
    · rename_i e
      cases hb
      exact ⟨by have := hs.1; omega, k, hs.2⟩
    · exact h i b hb
  · exact h
theorem good_drop {t : Tree} (h : Good t) (p : Int) : Good (dropR t p) := by
  intro i b hb
  unfold dropR delI at hb
  split at hb
  · cases hb
  · exact h i b hb
theorem drop_none {t : Tree} {p : Int} (h : atI t p = none) : dropR t p = t := by
  funext i
  unfold dropR delI
  split
  · rename_i e
    rw [← e, atI_nat] at h
    exact h.symm
  · rfl
theorem good_at {t : Tree} (h : Good t) {p : Int} {a : Acct} (e : atI t p = some a) : 0 ≤ p ∧ p < 16 ∧ a.Ok ∧ NRt a.nm := by
  obtain ⟨k, rfl, hk⟩ := atI_some e
  have := h k a hk
  exact ⟨by omega, by omega, this.2⟩
theorem good_getD {t : Tree} (h : Good t) (p : Int) : ((atI t p).getD za).Ok := by
  cases e : atI t p with
  | none => exact za_ok
  | some a => exact (good_at h e).2.2.1
/-! ### Paths -/
def z4 : List (List Nat) := [zh, zh, zh, zh]
theorem z4_ok : ∀ x ∈ z4, H32 x := fun x hx => z5_ok x (by simp only [z4, z5, List.mem_cons, List.not_mem_nil, or_false, or_self] at hx ⊢; exact hx)
theorem path_ok (t : Tree) (p : Nat) : ∀ x ∈ pathD t p, H32 x := by
  intro x hx
  simp only [pathD, List.mem_cons, List.not_mem_nil, or_false] at hx
  rcases hx with rfl | rfl | rfl | rfl <;> exact bes_ok _ _ _
def pathI (t : Tree) (p : Int) : List (List Nat) := if 0 ≤ p ∧ p < 16 then pathD t p.toNat else z4
def pathE (p : Int) : Nat := if 0 ≤ p ∧ p < 16 then 0 else 1
theorem pathI_ok (t : Tree) (p : Int) : ∀ x ∈ pathI t p, H32 x := by
  unfold pathI
  split
  · exact path_ok _ _
  · exact z4_ok
theorem pathI_len (t : Tree) (p : Int) : (pathI t p).length = 4 := by
  unfold pathI
  split <;> rfl
theorem dg4 {L : List (List Nat)} (h : ∀ x ∈ L, H32 x) (hl : L.length = 4) : (dgC L).length = 128 := by rw [dgC_len L h, hl]
theorem z_path : Mem.Zero Tryd.prog 29 (dgC z4) := by unfold Mem.Zero; kernel_rfl
theorem z_rpath : Mem.Zero Tryd.prog 28 (dgC z4) := by unfold Mem.Zero; kernel_rfl
theorem built_path : Tryd.prog.built 29 [] = some (dgC z4).toArray := by kernel_rfl
theorem built_rpath : Tryd.prog.built 28 [] = some (dgC z4).toArray := by kernel_rfl
theorem sz_path {L : List (List Nat)} (h : ∀ x ∈ L, H32 x) (hl : L.length = 4) : Sized Tryd.prog 29 (dgC L).length := by rw [dg4 h hl]; exact ⟨.array 4 23, by kernel_rfl, rfl, by kernel_rfl⟩
theorem sz_rpath {L : List (List Nat)} (h : ∀ x ∈ L, H32 x) (hl : L.length = 4) : Sized Tryd.prog 28 (dgC L).length := by rw [dg4 h hl]; exact ⟨.array 4 23, by kernel_rfl, rfl, by kernel_rfl⟩
theorem fitP {L : List (List Nat)} (h : ∀ x ∈ L, H32 x) (hl : L.length = 4) : 0 + (dgC L).length ≤ (dgC z4).length := by rw [dg4 h hl, dg4 z4_ok rfl]; omega
theorem allP {L : List (List Nat)} (h : ∀ x ∈ L, H32 x) (hl : L.length = 4) : lay (dgC z4) 0 (dgC L) = dgC L := lay_all _ _ (by rw [dg4 h hl, dg4 z4_ok rfl])
set_option maxRecDepth 100000 in
theorem fit_dg4 {ty : TypeId} (hu : Tryd.prog.underlying ty = some (.array 4 23)) {L : List (List Nat)} (h : ∀ x ∈ L, H32 x) (hl : L.length = 4) : Fit Tryd.prog 3 ty (dgC L) := by
  have c1 : Tryd.prog.cellsOf 23 = 32 := by kernel_rfl
  refine fit_array hu (by kernel_rfl) (by rw [c1, dg4 h hl]) fun i hi => ?_
  obtain ⟨d, hd⟩ : ∃ d, L[i]? = some d := ⟨_, List.getElem?_eq_getElem (by omega)⟩
  have hh := dg_has L [] i d h hd
  have kd := h d (List.mem_of_getElem? hd)
  have := hh.chunk (h_len kd)
  simp only [List.nil_append, List.length_nil, Nat.zero_add] at this
  rw [c1, Nat.mul_comm, this]
  exact Ep.fit_hash 0 kd
section
variable {o : Oper} {a : Act}
set_option maxRecDepth 100000 in
/-- '==' and '!=' of two paths. -/
theorem run_op_eqlP {L M : List (List Nat)} (hL : ∀ x ∈ L, H32 x) (hM : ∀ x ∈ M, H32 x) (lL : L.length = 4) (lM : M.length = 4) (ty : TypeId) (hu : Tryd.prog.underlying ty = some (.array 4 23)) (hg : Tryd.prog.eqGuardType Tryd.prog.depth ty = false) (p q : Operand) (t' : TypeId) (ho : o.op = .binOp .eql ty p q t') (hy : a.eval p = .agg (dgC L).toArray) (hz : a.eval q = .agg (dgC M).toArray) (b : Bool) (hb : b = true ↔ L = M) (w : World) : (execOp a.eval o).run Tryd.prog w = .ok (.value (.bool b)) w :=
  run_op_eqlF ty p q t' ho 3 (by omega) (.array 4 23) hu rfl hg (dgC L) (dgC M) hy hz (fit_dg4 hu hL lL) (fit_dg4 hu hM lM) b (hb.trans ⟨congrArg dgC, dgC_inj L M hL hM (by rw [lL, lM])⟩) w
set_option maxRecDepth 100000 in
theorem run_op_neqP {L M : List (List Nat)} (hL : ∀ x ∈ L, H32 x) (hM : ∀ x ∈ M, H32 x) (lL : L.length = 4) (lM : M.length = 4) (ty : TypeId) (hu : Tryd.prog.underlying ty = some (.array 4 23)) (hg : Tryd.prog.eqGuardType Tryd.prog.depth ty = false) (p q : Operand) (t' : TypeId) (ho : o.op = .binOp .neq ty p q t') (hy : a.eval p = .agg (dgC L).toArray) (hz : a.eval q = .agg (dgC M).toArray) (b : Bool) (hb : b = true ↔ L = M) (w : World) : (execOp a.eval o).run Tryd.prog w = .ok (.value (.bool (!b))) w :=
  run_op_neqF ty p q t' ho 3 (by omega) (.array 4 23) hu rfl hg (dgC L) (dgC M) hy hz (fit_dg4 hu hL lL) (fit_dg4 hu hM lM) b (hb.trans ⟨congrArg dgC, dgC_inj L M hL hM (by rw [lL, lM])⟩) w
end
theorem run_op_arr {P : Program} {o : Oper} {a : Act} (t : TypeId) (x ix : Operand) (ho : o.op = .indexAddr t x ix) (n : Nat) (e : TypeId) (s : Nat) (hu : P.underlying t = some (.array n e)) (hse : (P.info? e).map (·.size) = some s)
    (g off : Nat) (hx : a.eval x = .pointer (some ⟨g, off, none⟩)) (kk : IntKind) (i : Int) (hi : a.eval ix = .int kk i) (k : Nat) (hik : i = (k : Int)) (hk : k < n) (q : Nat) (hqq : off + k * s = q) (w : World) : (execOp a.eval o).run P w = .ok (.value (.pointer (some ⟨g, q, none⟩))) w := by
  subst hik hqq
  cases hq : P.info? e with
  | none => simp [hq] at hse
  | some ie =>
    have hs : ie.size = s := by simpa [hq] using hse
    have h3 : (⟨g, off, none⟩ : Addr).add (k * s) = ⟨g, off + k * s, none⟩ := Addr.add_mid g off (k * s)
    unfold execOp
    simp [ho, hx, hi, Instr.indexAt, asIntOf, run_underlying hu, sizeOf, typeInfo, hq, hs, hk, h3, Instr.sureAddr]
section
variable {o : Oper} {a : Act}
set_option maxRecDepth 100000 in
/-- '==' and '!=' of two digests. -/
theorem run_op_eqlD {x y : List Nat} (k : H32 x) (j : H32 y) (p q : Operand) (t' : TypeId) (ho : o.op = .binOp .eql 23 p q t') (hy : a.eval p = .agg (u8s x).toArray) (hz : a.eval q = .agg (u8s y).toArray) (b : Bool) (hb : b = true ↔ x = y) (w : World) : (execOp a.eval o).run Tryd.prog w = .ok (.value (.bool b)) w :=
  run_op_eqlF 23 p q t' ho 2 (by omega) (.array 32 5) (by kernel_rfl) rfl (by kernel_rfl) (u8s x) (u8s y) hy hz (Ep.fit_hash 0 k) (Ep.fit_hash 0 j) b (hb.trans ⟨congrArg u8s, dgC_inj.u8s_same [] []⟩) w
set_option maxRecDepth 100000 in
theorem run_op_neqD {x y : List Nat} (k : H32 x) (j : H32 y) (p q : Operand) (t' : TypeId) (ho : o.op = .binOp .neq 23 p q t') (hy : a.eval p = .agg (u8s x).toArray) (hz : a.eval q = .agg (u8s y).toArray) (b : Bool) (hb : b = true ↔ x = y) (w : World) : (execOp a.eval o).run Tryd.prog w = .ok (.value (.bool (!b))) w :=
  run_op_neqF 23 p q t' ho 2 (by omega) (.array 32 5) (by kernel_rfl) rfl (by kernel_rfl) (u8s x) (u8s y) hy hz (Ep.fit_hash 0 k) (Ep.fit_hash 0 j) b (hb.trans ⟨congrArg u8s, dgC_inj.u8s_same [] []⟩) w
set_option maxRecDepth 100000 in
theorem run_op_neqA (x y : Operand) (t' : TypeId) (ho : o.op = .binOp .neq 27 x y t') (c d : Acct) (hx : a.eval x = .agg (acs c).toArray) (hy : a.eval y = .agg (acs d).toArray) (b : Bool) (hb : b = true ↔ c = d) (w : World) : (execOp a.eval o).run Tryd.prog w = .ok (.value (.bool (!b))) w :=
  run_op_neqF _ x y t' ho 2 (by omega) (.struct (Tryd.prog.fieldsOf 27)) (by kernel_rfl) rfl (by kernel_rfl) (acs c) (acs d) hx hy (fit_acc 0 c) (fit_acc 0 d) b (hb.trans acs_iff.symm) w
/-- '==' and '!=' of two truths. -/
theorem run_eqlB (p q : Bool) (w : World) : (binOp .eql 4 (.bool p) (.bool q)).run Tryd.prog w = .ok (.bool (p == q)) w := by cases p <;> cases q <;> kernel_rfl
theorem run_neqB (p q : Bool) (w : World) : (binOp .neq 4 (.bool p) (.bool q)).run Tryd.prog w = .ok (.bool (!(p == q))) w := by cases p <;> cases q <;> kernel_rfl
theorem run_op_eqlBB (x y : Operand) (t' : TypeId) (ho : o.op = .binOp .eql 4 x y t') (p q : Bool) (hx : a.eval x = .bool p) (hy : a.eval y = .bool q) (r : Bool) (hr : (p == q) = r) (w : World) : (execOp a.eval o).run Tryd.prog w = .ok (.value (.bool r)) w := by
  subst hr
  unfold execOp
  simp [ho, hx, hy, eqGuard, run_eqlB]
theorem run_op_neqBB (x y : Operand) (t' : TypeId) (ho : o.op = .binOp .neq 4 x y t') (p q : Bool) (hx : a.eval x = .bool p) (hy : a.eval y = .bool q) (r : Bool) (hr : (!(p == q)) = r) (w : World) : (execOp a.eval o).run Tryd.prog w = .ok (.value (.bool r)) w := by
  subst hr
  unfold execOp
  simp [ho, hx, hy, eqGuard, run_neqB]
end
end Go.Proofs.YtaihhbiocolhcaaDoor.Tr

/-
  The contracts of Join, package tree's and the document's. Over this seat's translation.
-/
namespace Go.Proofs.YtaihhbiocolhcaaDoor.Tr
open Go.ChangeShapes Go.WideShapes Go.ChangeAt Go.RowKit Go.Proofs.YtaihhbiocolhcaaDoor.Mem Go.Proofs.YtaihhbiocolhcaaDoor.Bt Go.Proofs.YtaihhbiocolhcaaDoor.Wi Go.Proofs.YtaihhbiocolhcaaDoor.Sha Go.Proofs.YtaihhbiocolhcaaDoor.Ac Go.Proofs.YtaihhbiocolhcaaDoor.Im
open Go.Proofs.YtaihhbiocolhcaaDoor.Tg (bytesOf bytesOf_length bytesOf_lt bytesOf_inj Rd Rd.below Parts parts_one arm_one tagD tagD_len tagOf_any refTag_any total)
open Go.Proofs.YtaihhbiocolhcaaDoor.Ep (H32 zh zh_ok Has h_len szH zH fitH allH came_at)
set_option linter.unusedVariables false
set_option linter.unusedSimpArgs false

theorem run_op_conv8 {o : Oper} {a : Act} (x : Operand) (ho : o.op = .convert 3 5 x) (m n : Int) (hx : a.eval x = .int .i64 m) (hw : IntKind.u8.wrap m = n) (w : World) : (execOp a.eval o).run Tryd.prog w = .ok (.value (.int .u8 n)) w := by
  subst hw
  unfold execOp
  simp only [ho, hx]
  kernel_rfl
theorem run_byte (n : Int) (w : World) : (Instr.buildSlice 30 1 #[(0, .int .u8 n)]).run Tryd.prog w = .ok (.slice (some ⟨w.heap.size, 0, none⟩) 1 1) (w.alloc (.cells #[.int .u8 n] 5)) := by kernel_rfl
theorem run_op_byte {o : Oper} {a : Act} (x : Operand) (ho : o.op = .buildSlice 30 1 #[(0, x)]) (n : Int) (hx : a.eval x = .int .u8 n) (w : World) :
    (execOp a.eval o).run Tryd.prog w = .ok (.value (.slice (some ⟨w.heap.size, 0, none⟩) 1 1)) (w.alloc (.cells #[.int .u8 n] 5)) := by
  unfold execOp
  simp only [ho, List.map_toArray, List.map_cons, List.map_nil, hx, Sem.run_bind, run_byte, Result.andThen_ok, Sem.run_pure]
theorem run_three (p q r : Option Addr) (n m k c e f : Nat) (w : World) : (Instr.buildSlice 88 3 #[(0, .slice p n c), (1, .slice q m e), (2, .slice r k f)]).run Tryd.prog w = .ok (.slice (some ⟨w.heap.size, 0, none⟩) 3 3) (w.alloc (.cells #[.slice p n c, .slice q m e, .slice r k f] 30)) := by kernel_rfl
theorem run_op_three {o : Oper} {a : Act} (x y z : Operand) (ho : o.op = .buildSlice 88 3 #[(0, x), (1, y), (2, z)]) (p q r : Option Addr) (n m k c e f : Nat) (hx : a.eval x = .slice p n c) (hy : a.eval y = .slice q m e) (hz : a.eval z = .slice r k f) (w : World) :
    (execOp a.eval o).run Tryd.prog w = .ok (.value (.slice (some ⟨w.heap.size, 0, none⟩) 3 3)) (w.alloc (.cells #[.slice p n c, .slice q m e, .slice r k f] 30)) := by
  unfold execOp
  simp only [ho, List.map_toArray, List.map_cons, List.map_nil, hx, hy, hz, Sem.run_bind, run_three, Result.andThen_ok, Sem.run_pure]
theorem came_byte {w : World} {b h : Nat} (hr : Row w b 5 (u8s [h])) (hh : h < 256) : Came w (some ⟨b, 0, none⟩) 1 [h] :=
  ⟨by simp, fun e => (by cases e), fun _ => ⟨b, 0, rfl, (Has.refl _).range hr⟩, fun x hx => by rw [List.mem_singleton.1 hx]; exact hh, by unfold maxLen; simp⟩
theorem parts_three {w : World} {b : Nat} {p q r : Option Addr} {h : Nat} {x y : List Nat} (hr : Row w b 30 [.slice p 1 1, .slice q 32 32, .slice r 32 32]) (hb : Came w p 1 [h]) (hc : Came w q 32 x) (hd : Came w r 32 y) (k : H32 x) (j : H32 y) : Parts w (some ⟨b, 0, none⟩) [[h], x, y] :=
  ⟨fun _ => ⟨b, 0, rfl, hr.lt, fun i hi => by
    have hi' : i < 3 := hi
    obtain rfl | rfl | rfl : i = 0 ∨ i = 1 ∨ i = 2 := by omega
    · exact ⟨p, 1, by show _ = some (Value.slice p [h].length 1); exact hr.cell rfl, hb⟩
    · exact ⟨q, 32, by show _ = some (Value.slice q x.length 32); rw [k.len]; exact hr.cell rfl, hc⟩
    · exact ⟨r, 32, by show _ = some (Value.slice r y.length 32); rw [j.len]; exact hr.cell rfl, hd⟩⟩⟩
set_option maxHeartbeats 4000000 in
set_option maxRecDepth 100000 in
theorem join_any (h : Nat) (l r : List Nat) (w : World) (hh : h < 256) (kl : H32 l) (kr : H32 r) (hk : w.rangeAt 1 0 (u32s ks)) :
    Calls Tryd.prog 28 #[.int .i64 (h : Int), .agg (u8s l).toArray, .agg (u8s r).toArray] w fun e w' => e = .returned (.agg (u8s (joinD h l r)).toArray) ∧ Below w.heap.size w w' := by
  have hk1 : 1 < w.heap.size := range_lt hk (by simp [u32s, ks])
  have HKW : Hid (∀ w', Below w.heap.size w w' → w'.rangeAt 1 0 (u32s ks)) := Lib.hid fun w' hb => range_block hk (hb.block _ hk1)
  have KL := Lib.hid kl; have KR := Lib.hid kr
  have HW : Hid (IntKind.u8.wrap (h : Int) = (h : Int)) := Lib.hid (by rw [IntKind.wrap_u8]; omega)
  have HH := Lib.hid hh
  have HD : Hid (tagD ⟨#[110, 111, 100, 101]⟩ [[h], l, r] = joinD h l r) := Lib.hid rfl
  have KD := Lib.hid (join_ok h l r)
  clear hk hk1 kl kr hh
  generalize joinD h l r = dd at HD KD ⊢
  go_enter Tryd.func28, Tryd.ntmps28
  go_wp2_with (first
    | ((with_reducible refine at_slot 4 ?_); (refine arm_box (o := ⟨some 4, _, _, _, _, _⟩) rfl _ _ rfl (u8s l) rfl ?_); intro X v1 Xe hv1 nv1)
    | ((with_reducible refine at_slot 5 ?_); (refine arm_box (o := ⟨some 5, _, _, _, _, _⟩) rfl _ _ rfl (u8s r) rfl ?_); intro Y v2 Ye hv2 nv2)
    | ((with_reducible refine at_slot 6 ?_); (refine arm_alloc (o := ⟨some 6, _, _, _, _, _⟩) rfl _ rfl (u8s zh) zH ?_); intro R v3 Re hv3 nv3))
  have hbv1 := nv1.below
  have rrv1 : Row v1 X 23 (u8s l) := hv1
  have hbv2 := nv2.below
  have rrv2 : Row v2 Y 23 (u8s r) := hv2
  have hbv3 := nv3.below
  have rrv3 : Row v3 R 23 (u8s zh) := hv3
  have geX : w.heap.size ≤ X := by have := Xe.out; omega
  clear hv1 nv1 Xe
  have bel_4 : Below w.heap.size w v1 := hbv1
  clear hbv1
  have geY : w.heap.size ≤ Y := by have := Ye.out; have := bel_4.size; omega
  clear hv2 nv2 Ye
  have X_5 : Row v2 X 23 (u8s l) := rrv1.old hbv2
  have bel_5 : Below w.heap.size w v2 := below_step bel_4 bel_4.size hbv2
  clear rrv1 bel_4 hbv2
  have geR : w.heap.size ≤ R := by have := Re.out; have := bel_5.size; omega
  clear hv3 nv3 Re
  have X_6 : Row v3 X 23 (u8s l) := X_5.old hbv3
  have Y_6 : Row v3 Y 23 (u8s r) := rrv2.old hbv3
  have bel_6 : Below w.heap.size w v3 := below_step bel_5 bel_5.size hbv3
  clear X_5 rrv2 bel_5 hbv3
  refine wp_region_held (S := fun w' => True) (by kernel_rfl) ?_
  change wpAnyH _ _ _ _ _ _ _ _ v3.drew
  have hd7 : Below v3.heap.size v3 v3.drew := (Below.refl _ _).drew
  have X_8 : Row v3.drew X 23 (u8s l) := X_6.old hd7
  have Y_8 : Row v3.drew Y 23 (u8s r) := Y_6.old hd7
  have R_8 : Row v3.drew R 23 (u8s zh) := rrv3.old hd7
  have bel_8 : Below w.heap.size w v3.drew := below_step bel_6 bel_6.size hd7
  clear X_6 Y_6 rrv3 bel_6 hd7
  generalize v3.drew = yz7 at X_8 Y_8 R_8 bel_8 ⊢
  refine h_take 0 (.int .i64 (h : Int)) rfl 7 rfl (by kernel_rfl) (by kernel_rfl) (by kernel_rfl) (by kernel_rfl) (fun _ _ _ h => h) (fun w' _ => by kernel_rfl) trivial ?_
  simp only [Act.put, List.setIfInBounds_toArray, List.set_cons_zero, List.set_cons_succ]
  refine h_take 1 (.int .u8 (h : Int)) rfl 8 rfl (by kernel_rfl) (by kernel_rfl) (by kernel_rfl) (by kernel_rfl) (fun _ _ _ h => h) (fun w' _ => run_op_conv8 _ rfl _ _ rfl HW.out w') trivial ?_
  simp only [Act.put, List.setIfInBounds_toArray, List.set_cons_zero, List.set_cons_succ]
  refine h_take 3 (.slice (some ⟨X, 0, none⟩) 32 32) rfl 10 rfl (by kernel_rfl) (by kernel_rfl) (by kernel_rfl) (by kernel_rfl) (fun _ _ _ h => h) (fun w' _ => run_op_sliceAll _ _ rfl 32 5 (by kernel_rfl) (by kernel_rfl) X 0 rfl (by omega) w') trivial ?_
  simp only [Act.put, List.setIfInBounds_toArray, List.set_cons_zero, List.set_cons_succ]
  refine h_take 4 (.slice (some ⟨Y, 0, none⟩) 32 32) rfl 11 rfl (by kernel_rfl) (by kernel_rfl) (by kernel_rfl) (by kernel_rfl) (fun _ _ _ h => h) (fun w' _ => run_op_sliceAll _ _ rfl 32 5 (by kernel_rfl) (by kernel_rfl) Y 0 rfl (by omega) w') trivial ?_
  simp only [Act.put, List.setIfInBounds_toArray, List.set_cons_zero, List.set_cons_succ]
  refine h_one (i := 2) (by kernel_rfl) (o_value _ rfl 9 rfl (by kernel_rfl) (run_op_byte _ rfl _ rfl _) ?_)
  have hNy9 := (new_alloc yz7 (.cells #[.int .u8 (h : Int)] 5)).below
  have rNy9 : Row (yz7.alloc (.cells #[.int .u8 (h : Int)] 5)) yz7.heap.size 5 (u8s [h]) := heap_alloc_new _ _
  have geQ : w.heap.size ≤ yz7.heap.size := bel_8.size
  generalize yz7.alloc (.cells #[.int .u8 (h : Int)] 5) = y9 at hNy9 rNy9 ⊢
  have X_10 : Row y9 X 23 (u8s l) := X_8.old hNy9
  have Y_10 : Row y9 Y 23 (u8s r) := Y_8.old hNy9
  have R_10 : Row y9 R 23 (u8s zh) := R_8.old hNy9
  have bel_10 : Below w.heap.size w y9 := below_step bel_8 bel_8.size hNy9
  clear X_8 Y_8 R_8 bel_8 hNy9
  generalize yz7.heap.size = Q at rNy9 geQ ⊢
  refine ⟨trivial, ?_⟩
  simp only [Act.put, List.setIfInBounds_toArray, List.set_cons_zero, List.set_cons_succ]
  refine h_one (i := 5) (by kernel_rfl) (o_value _ rfl 12 rfl (by kernel_rfl) (run_op_three _ _ _ rfl (some ⟨Q, 0, none⟩) (some ⟨X, 0, none⟩) (some ⟨Y, 0, none⟩) 1 32 32 1 32 32 rfl rfl rfl _) ?_)
  have hNy11 := (new_alloc y9 (.cells #[.slice (some ⟨Q, 0, none⟩) 1 1, .slice (some ⟨X, 0, none⟩) 32 32, .slice (some ⟨Y, 0, none⟩) 32 32] 30)).below
  have rNy11 : Row (y9.alloc (.cells #[.slice (some ⟨Q, 0, none⟩) 1 1, .slice (some ⟨X, 0, none⟩) 32 32, .slice (some ⟨Y, 0, none⟩) 32 32] 30)) y9.heap.size 30 ([.slice (some ⟨Q, 0, none⟩) 1 1, .slice (some ⟨X, 0, none⟩) 32 32, .slice (some ⟨Y, 0, none⟩) 32 32]) := heap_alloc_new _ _
  have geZ : w.heap.size ≤ y9.heap.size := bel_10.size
  generalize y9.alloc (.cells #[.slice (some ⟨Q, 0, none⟩) 1 1, .slice (some ⟨X, 0, none⟩) 32 32, .slice (some ⟨Y, 0, none⟩) 32 32] 30) = y11 at hNy11 rNy11 ⊢
  have X_12 : Row y11 X 23 (u8s l) := X_10.old hNy11
  have Y_12 : Row y11 Y 23 (u8s r) := Y_10.old hNy11
  have R_12 : Row y11 R 23 (u8s zh) := R_10.old hNy11
  have Q_12 : Row y11 Q 5 (u8s [h]) := rNy9.old hNy11
  have bel_12 : Below w.heap.size w y11 := below_step bel_10 bel_10.size hNy11
  clear X_10 Y_10 R_10 rNy9 bel_10 hNy11
  generalize y9.heap.size = Z at rNy11 geZ ⊢
  refine ⟨trivial, ?_⟩
  simp only [Act.put, List.setIfInBounds_toArray, List.set_cons_zero, List.set_cons_succ]
  have hpt : Parts y11 (some ⟨Z, 0, none⟩) [[h], l, r] := parts_three rNy11 (came_byte Q_12 HH.out) (came_at ((Has.refl _).range X_12) KL.out) (came_at ((Has.refl _).range Y_12) KR.out) KL.out KR.out
  have CT := tagOf_any ⟨#[110, 111, 100, 101]⟩ [[h], l, r] (some ⟨Z, 0, none⟩) 3 y11 (by simp [total, KL.out.len, KR.out.len]) hpt (HKW.out _ bel_12)
  rw [HD.out] at CT
  clear hpt
  refine h_one (i := 6) (by kernel_rfl) (o_call rfl 13 rfl (by kernel_rfl) (run_op_call 37 _ _ rfl #[.string ⟨#[110, 111, 100, 101]⟩, .slice (some ⟨Z, 0, none⟩) 3 3] (by simp only [List.map_toArray, List.map_cons, List.map_nil]; rfl) Tryd.func37 (by kernel_rfl) (by kernel_rfl) _) (CT) ?_)
  rintro e y13 ⟨rfl, hB⟩
  have X_14 : Row y13 X 23 (u8s l) := X_12.old hB
  have Y_14 : Row y13 Y 23 (u8s r) := Y_12.old hB
  have R_14 : Row y13 R 23 (u8s zh) := R_12.old hB
  have Q_14 : Row y13 Q 5 (u8s [h]) := Q_12.old hB
  have Z_14 : Row y13 Z 30 ([.slice (some ⟨Q, 0, none⟩) 1 1, .slice (some ⟨X, 0, none⟩) 32 32, .slice (some ⟨Y, 0, none⟩) 32 32]) := rNy11.old hB
  have bel_14 : Below w.heap.size w y13 := below_step bel_12 bel_12.size hB
  clear X_12 Y_12 R_12 Q_12 rNy11 bel_12 hB
  refine ⟨_, rfl, trivial, ?_⟩
  simp only [Act.put, List.setIfInBounds_toArray, List.set_cons_zero, List.set_cons_succ]
  clear CT
  clear X_14
  clear Y_14
  clear Q_14
  clear Z_14
  refine h_one (i := 7) (by kernel_rfl) (o_skip rfl rfl (by kernel_rfl) (run_op_store _ _ _ rfl R (0) rfl (u8s dd) rfl _ _ R_14 (fitH KD.out) (u8s_one _) (szH KD.out)) ?_)
  have rq := row_setRow R_14 (lay (u8s zh) (0) (u8s dd))
  have oq := Only.setRow R y13 (lay (u8s zh) (0) (u8s dd)).toArray
  generalize y13.setRow R (lay (u8s zh) (0) (u8s dd)).toArray = y15 at rq oq ⊢
  have R_16 : Row y15 R 23 (u8s dd) := rq.congr (allH KD.out)
  have bel_16 : Below w.heap.size w y15 := below_only bel_14 oq geR bel_14.size
  clear R_14 bel_14 oq
  clear rq
  refine ⟨trivial, ?_⟩
  refine wpAnyH_done (by kernel_rfl) ?_ _
  go_wp2_with fail
  exact bodyPost_ret (v := .agg (u8s dd).toArray) (result_row (p := 6) (ty := 23) (u := 23) (by kernel_rfl) _ _ R (u8s dd) rfl R_16 (szH KD.out)) rfl ⟨rfl, bel_16⟩
set_option maxHeartbeats 4000000 in
set_option maxRecDepth 100000 in
theorem rjoin_any (h : Nat) (l r : List Nat) (w : World) (hh : h < 256) (kl : H32 l) (kr : H32 r) (hk : w.rangeAt 0 0 (u32s ks)) :
    Calls Tryd.prog 31 #[.int .i64 (h : Int), .agg (u8s l).toArray, .agg (u8s r).toArray] w fun e w' => e = .returned (.agg (u8s (joinD h l r)).toArray) ∧ Below w.heap.size w w' := by
  have hk1 : 0 < w.heap.size := range_lt hk (by simp [u32s, ks])
  have HKW : Hid (∀ w', Below w.heap.size w w' → w'.rangeAt 0 0 (u32s ks)) := Lib.hid fun w' hb => range_block hk (hb.block _ hk1)
  have KL := Lib.hid kl; have KR := Lib.hid kr
  have HW : Hid (IntKind.u8.wrap (h : Int) = (h : Int)) := Lib.hid (by rw [IntKind.wrap_u8]; omega)
  have HH := Lib.hid hh
  have HD : Hid (tagD ⟨#[110, 111, 100, 101]⟩ [[h], l, r] = joinD h l r) := Lib.hid rfl
  have KD := Lib.hid (join_ok h l r)
  clear hk hk1 kl kr hh
  generalize joinD h l r = dd at HD KD ⊢
  go_enter Tryd.func31, Tryd.ntmps31
  go_wp2_with (first
    | ((with_reducible refine at_slot 4 ?_); (refine arm_box (o := ⟨some 4, _, _, _, _, _⟩) rfl _ _ rfl (u8s l) rfl ?_); intro X v1 Xe hv1 nv1)
    | ((with_reducible refine at_slot 5 ?_); (refine arm_box (o := ⟨some 5, _, _, _, _, _⟩) rfl _ _ rfl (u8s r) rfl ?_); intro Y v2 Ye hv2 nv2)
    | ((with_reducible refine at_slot 6 ?_); (refine arm_alloc (o := ⟨some 6, _, _, _, _, _⟩) rfl _ rfl (u8s zh) zH ?_); intro R v3 Re hv3 nv3))
  have hbv1 := nv1.below
  have rrv1 : Row v1 X 23 (u8s l) := hv1
  have hbv2 := nv2.below
  have rrv2 : Row v2 Y 23 (u8s r) := hv2
  have hbv3 := nv3.below
  have rrv3 : Row v3 R 23 (u8s zh) := hv3
  have geX : w.heap.size ≤ X := by have := Xe.out; omega
  clear hv1 nv1 Xe
  have bel_4 : Below w.heap.size w v1 := hbv1
  clear hbv1
  have geY : w.heap.size ≤ Y := by have := Ye.out; have := bel_4.size; omega
  clear hv2 nv2 Ye
  have X_5 : Row v2 X 23 (u8s l) := rrv1.old hbv2
  have bel_5 : Below w.heap.size w v2 := below_step bel_4 bel_4.size hbv2
  clear rrv1 bel_4 hbv2
  have geR : w.heap.size ≤ R := by have := Re.out; have := bel_5.size; omega
  clear hv3 nv3 Re
  have X_6 : Row v3 X 23 (u8s l) := X_5.old hbv3
  have Y_6 : Row v3 Y 23 (u8s r) := rrv2.old hbv3
  have bel_6 : Below w.heap.size w v3 := below_step bel_5 bel_5.size hbv3
  clear X_5 rrv2 bel_5 hbv3
  refine wp_region_held (S := fun w' => True) (by kernel_rfl) ?_
  change wpAnyH _ _ _ _ _ _ _ _ v3.drew
  have hd7 : Below v3.heap.size v3 v3.drew := (Below.refl _ _).drew
  have X_8 : Row v3.drew X 23 (u8s l) := X_6.old hd7
  have Y_8 : Row v3.drew Y 23 (u8s r) := Y_6.old hd7
  have R_8 : Row v3.drew R 23 (u8s zh) := rrv3.old hd7
  have bel_8 : Below w.heap.size w v3.drew := below_step bel_6 bel_6.size hd7
  clear X_6 Y_6 rrv3 bel_6 hd7
  generalize v3.drew = yz7 at X_8 Y_8 R_8 bel_8 ⊢
  refine h_take 0 (.int .i64 (h : Int)) rfl 7 rfl (by kernel_rfl) (by kernel_rfl) (by kernel_rfl) (by kernel_rfl) (fun _ _ _ h => h) (fun w' _ => by kernel_rfl) trivial ?_
  simp only [Act.put, List.setIfInBounds_toArray, List.set_cons_zero, List.set_cons_succ]
  refine h_take 1 (.int .u8 (h : Int)) rfl 8 rfl (by kernel_rfl) (by kernel_rfl) (by kernel_rfl) (by kernel_rfl) (fun _ _ _ h => h) (fun w' _ => run_op_conv8 _ rfl _ _ rfl HW.out w') trivial ?_
  simp only [Act.put, List.setIfInBounds_toArray, List.set_cons_zero, List.set_cons_succ]
  refine h_take 3 (.slice (some ⟨X, 0, none⟩) 32 32) rfl 10 rfl (by kernel_rfl) (by kernel_rfl) (by kernel_rfl) (by kernel_rfl) (fun _ _ _ h => h) (fun w' _ => run_op_sliceAll _ _ rfl 32 5 (by kernel_rfl) (by kernel_rfl) X 0 rfl (by omega) w') trivial ?_
  simp only [Act.put, List.setIfInBounds_toArray, List.set_cons_zero, List.set_cons_succ]
  refine h_take 4 (.slice (some ⟨Y, 0, none⟩) 32 32) rfl 11 rfl (by kernel_rfl) (by kernel_rfl) (by kernel_rfl) (by kernel_rfl) (fun _ _ _ h => h) (fun w' _ => run_op_sliceAll _ _ rfl 32 5 (by kernel_rfl) (by kernel_rfl) Y 0 rfl (by omega) w') trivial ?_
  simp only [Act.put, List.setIfInBounds_toArray, List.set_cons_zero, List.set_cons_succ]
  refine h_one (i := 2) (by kernel_rfl) (o_value _ rfl 9 rfl (by kernel_rfl) (run_op_byte _ rfl _ rfl _) ?_)
  have hNy9 := (new_alloc yz7 (.cells #[.int .u8 (h : Int)] 5)).below
  have rNy9 : Row (yz7.alloc (.cells #[.int .u8 (h : Int)] 5)) yz7.heap.size 5 (u8s [h]) := heap_alloc_new _ _
  have geQ : w.heap.size ≤ yz7.heap.size := bel_8.size
  generalize yz7.alloc (.cells #[.int .u8 (h : Int)] 5) = y9 at hNy9 rNy9 ⊢
  have X_10 : Row y9 X 23 (u8s l) := X_8.old hNy9
  have Y_10 : Row y9 Y 23 (u8s r) := Y_8.old hNy9
  have R_10 : Row y9 R 23 (u8s zh) := R_8.old hNy9
  have bel_10 : Below w.heap.size w y9 := below_step bel_8 bel_8.size hNy9
  clear X_8 Y_8 R_8 bel_8 hNy9
  generalize yz7.heap.size = Q at rNy9 geQ ⊢
  refine ⟨trivial, ?_⟩
  simp only [Act.put, List.setIfInBounds_toArray, List.set_cons_zero, List.set_cons_succ]
  refine h_one (i := 5) (by kernel_rfl) (o_value _ rfl 12 rfl (by kernel_rfl) (run_op_three _ _ _ rfl (some ⟨Q, 0, none⟩) (some ⟨X, 0, none⟩) (some ⟨Y, 0, none⟩) 1 32 32 1 32 32 rfl rfl rfl _) ?_)
  have hNy11 := (new_alloc y9 (.cells #[.slice (some ⟨Q, 0, none⟩) 1 1, .slice (some ⟨X, 0, none⟩) 32 32, .slice (some ⟨Y, 0, none⟩) 32 32] 30)).below
  have rNy11 : Row (y9.alloc (.cells #[.slice (some ⟨Q, 0, none⟩) 1 1, .slice (some ⟨X, 0, none⟩) 32 32, .slice (some ⟨Y, 0, none⟩) 32 32] 30)) y9.heap.size 30 ([.slice (some ⟨Q, 0, none⟩) 1 1, .slice (some ⟨X, 0, none⟩) 32 32, .slice (some ⟨Y, 0, none⟩) 32 32]) := heap_alloc_new _ _
  have geZ : w.heap.size ≤ y9.heap.size := bel_10.size
  generalize y9.alloc (.cells #[.slice (some ⟨Q, 0, none⟩) 1 1, .slice (some ⟨X, 0, none⟩) 32 32, .slice (some ⟨Y, 0, none⟩) 32 32] 30) = y11 at hNy11 rNy11 ⊢
  have X_12 : Row y11 X 23 (u8s l) := X_10.old hNy11
  have Y_12 : Row y11 Y 23 (u8s r) := Y_10.old hNy11
  have R_12 : Row y11 R 23 (u8s zh) := R_10.old hNy11
  have Q_12 : Row y11 Q 5 (u8s [h]) := rNy9.old hNy11
  have bel_12 : Below w.heap.size w y11 := below_step bel_10 bel_10.size hNy11
  clear X_10 Y_10 R_10 rNy9 bel_10 hNy11
  generalize y9.heap.size = Z at rNy11 geZ ⊢
  refine ⟨trivial, ?_⟩
  simp only [Act.put, List.setIfInBounds_toArray, List.set_cons_zero, List.set_cons_succ]
  have hpt : Parts y11 (some ⟨Z, 0, none⟩) [[h], l, r] := parts_three rNy11 (came_byte Q_12 HH.out) (came_at ((Has.refl _).range X_12) KL.out) (came_at ((Has.refl _).range Y_12) KR.out) KL.out KR.out
  have CT := refTag_any ⟨#[110, 111, 100, 101]⟩ [[h], l, r] (some ⟨Z, 0, none⟩) 3 y11 (by simp [total, KL.out.len, KR.out.len]) hpt (HKW.out _ bel_12)
  rw [HD.out] at CT
  clear hpt
  refine h_one (i := 6) (by kernel_rfl) (o_call rfl 13 rfl (by kernel_rfl) (run_op_call 48 _ _ rfl #[.string ⟨#[110, 111, 100, 101]⟩, .slice (some ⟨Z, 0, none⟩) 3 3] (by simp only [List.map_toArray, List.map_cons, List.map_nil]; rfl) Tryd.func48 (by kernel_rfl) (by kernel_rfl) _) (CT) ?_)
  rintro e y13 ⟨rfl, hB⟩
  have X_14 : Row y13 X 23 (u8s l) := X_12.old hB
  have Y_14 : Row y13 Y 23 (u8s r) := Y_12.old hB
  have R_14 : Row y13 R 23 (u8s zh) := R_12.old hB
  have Q_14 : Row y13 Q 5 (u8s [h]) := Q_12.old hB
  have Z_14 : Row y13 Z 30 ([.slice (some ⟨Q, 0, none⟩) 1 1, .slice (some ⟨X, 0, none⟩) 32 32, .slice (some ⟨Y, 0, none⟩) 32 32]) := rNy11.old hB
  have bel_14 : Below w.heap.size w y13 := below_step bel_12 bel_12.size hB
  clear X_12 Y_12 R_12 Q_12 rNy11 bel_12 hB
  refine ⟨_, rfl, trivial, ?_⟩
  simp only [Act.put, List.setIfInBounds_toArray, List.set_cons_zero, List.set_cons_succ]
  clear CT
  clear X_14
  clear Y_14
  clear Q_14
  clear Z_14
  refine h_one (i := 7) (by kernel_rfl) (o_skip rfl rfl (by kernel_rfl) (run_op_store _ _ _ rfl R (0) rfl (u8s dd) rfl _ _ R_14 (fitH KD.out) (u8s_one _) (szH KD.out)) ?_)
  have rq := row_setRow R_14 (lay (u8s zh) (0) (u8s dd))
  have oq := Only.setRow R y13 (lay (u8s zh) (0) (u8s dd)).toArray
  generalize y13.setRow R (lay (u8s zh) (0) (u8s dd)).toArray = y15 at rq oq ⊢
  have R_16 : Row y15 R 23 (u8s dd) := rq.congr (allH KD.out)
  have bel_16 : Below w.heap.size w y15 := below_only bel_14 oq geR bel_14.size
  clear R_14 bel_14 oq
  clear rq
  refine ⟨trivial, ?_⟩
  refine wpAnyH_done (by kernel_rfl) ?_ _
  go_wp2_with fail
  exact bodyPost_ret (v := .agg (u8s dd).toArray) (result_row (p := 6) (ty := 23) (u := 23) (by kernel_rfl) _ _ R (u8s dd) rfl R_16 (szH KD.out)) rfl ⟨rfl, bel_16⟩
end Go.Proofs.YtaihhbiocolhcaaDoor.Tr

/-
  The contracts of package tree's there and New. Over this seat's translation.
-/
namespace Go.Proofs.YtaihhbiocolhcaaDoor.Tr
open Go.ChangeShapes Go.WideShapes Go.ChangeAt Go.RowKit Go.Proofs.YtaihhbiocolhcaaDoor.Mem Go.Proofs.YtaihhbiocolhcaaDoor.Bt Go.Proofs.YtaihhbiocolhcaaDoor.Wi Go.Proofs.YtaihhbiocolhcaaDoor.Sha Go.Proofs.YtaihhbiocolhcaaDoor.Ac Go.Proofs.YtaihhbiocolhcaaDoor.Im
open Go.Proofs.YtaihhbiocolhcaaDoor.Tg (bytesOf bytesOf_length bytesOf_lt bytesOf_inj Rd Rd.below Parts parts_one arm_one tagD tagD_len tagOf_any refTag_any total)
open Go.Proofs.YtaihhbiocolhcaaDoor.Ep (H32 zh zh_ok Has h_len szH zH fitH allH came_at)
set_option linter.unusedVariables false
set_option linter.unusedSimpArgs false

theorem run_op_addK {P : Program} {o : Oper} {a : Act} (t t' : TypeId) (x y : Operand) (ho : o.op = .binOp .add t x y t') (m n r : Int) (hx : a.eval x = .int .i64 m) (hy : a.eval y = .int .i64 n) (hr : IntKind.i64.wrap (m + n) = r) (w : World) :
    (execOp a.eval o).run P w = .ok (.value (.int .i64 r)) w := by
  subst hr
  unfold execOp
  simp [ho, hx, hy, eqGuard, binOp, Op.intArith]
set_option maxHeartbeats 4000000 in
set_option maxRecDepth 100000 in
theorem there_any (p : Int) (w : World) :
    Calls Tryd.prog 34 #[.int .i64 p] w fun e w' => e = .returned (.bool (decide (0 ≤ p ∧ p < 16))) ∧ w = w' := by
  by_cases h0 : 0 ≤ p
  · have d0 : decide ((0 : Int) ≤ p) = true := decide_eq_true h0
    have hd : decide (0 ≤ p ∧ p < 16) = decide (p < 16) := by simp [h0]
    rw [hd]
    clear hd
    go_enter Tryd.func34, Tryd.ntmps34
    go_wp2_with fail
    go_ret
    exact ⟨rfl, rfl⟩
  · have d0 : decide ((0 : Int) ≤ p) = false := decide_eq_false h0
    have hd : decide (0 ≤ p ∧ p < 16) = false := decide_eq_false fun h => h0 h.1
    rw [hd]
    clear hd
    go_enter Tryd.func34, Tryd.ntmps34
    go_wp2_with fail
    go_ret
    exact ⟨rfl, rfl⟩
theorem built_tree (mb : Nat) : Tryd.prog.built 81 [(0, .map (some mb))] = some (tcs mb z5).toArray := by kernel_rfl
/-- The bare digests that are known behind so many rounds. -/
def bl : Nat → List (List Nat)
  | 0 => z5.set 0 (bareD 0)
  | k + 1 => (bl k).set (k + 1) (bareD (k + 1))
theorem bl_ok : ∀ k, ∀ x ∈ bl k, H32 x
  | 0 => all_set z5_ok (bareD_ok 0) 0
  | k + 1 => all_set (bl_ok k) (bareD_ok (k + 1)) (k + 1)
theorem bl_len : ∀ k, (bl k).length = 5
  | 0 => rfl
  | k + 1 => by unfold bl; rw [List.length_set, bl_len k]
theorem bl_get : ∀ k, k ≤ 4 → (bl k)[k]? = some (bareD k)
  | 0, _ => rfl
  | k + 1, h => by unfold bl; rw [List.getElem?_set_self (by rw [bl_len]; omega)]
theorem bl_all : bl 4 = b5 := rfl
theorem tcs_len (mb : Nat) {L : List (List Nat)} (h : ∀ x ∈ L, H32 x) (hl : L.length = 5) : (tcs mb L).length = 161 := by unfold tcs; rw [List.length_append, dgC_len L h, hl]; rfl
theorem tree_lay (mb : Nat) {L : List (List Nat)} (h : ∀ x ∈ L, H32 x) {d : List Nat} (kd : H32 d) {i : Nat} (hi : i < L.length) : lay (tcs mb L) (1 + 32 * i) (u8s d) = tcs mb (L.set i d) := dg_lay L [.map (some mb)] i d h kd hi
theorem tree_has (mb : Nat) {L : List (List Nat)} (h : ∀ x ∈ L, H32 x) {d : List Nat} {i : Nat} (hi : L[i]? = some d) : Has (tcs mb L) (1 + 32 * i) (u8s d) := dg_has L [.map (some mb)] i d h hi
theorem bl_prev {k : Nat} (h : k ≤ 4) : (bl (k + 1))[k]? = some (bareD k) := by
  unfold bl
  rw [List.getElem?_set_ne (by omega)]
  exact bl_get k h
theorem range_old {w w' : World} {b o k : Nat} (h : w.rangeAt b o (u8s (bareD k))) (hb : Below w.heap.size w w') : w'.rangeAt b o (u8s (bareD k)) :=
  range_block h (hb.block b (range_lt h (fun e => by have := congrArg List.length e; rw [h_len (bareD_ok k)] at this; cases this)))
structure NwRel (w : World) (B mb : Nat) (i : Value) (wr : World) : Prop where
  ex : ∃ k : Nat, k ≤ 4 ∧ i = .int .i64 (k : Int) ∧ Row wr B 81 (tcs mb (bl k))
  map : IMap wr mb VA bare
  bel : Below w.heap.size w wr
structure NewPost (w : World) (e : Ending) (w' : World) : Prop where
  ex : ∃ B mb, e = .returned (.pointer (some ⟨B, 0, none⟩)) ∧ TrAt w' B mb bare ∧ w.heap.size ≤ B ∧ w.heap.size ≤ mb
  bel : Below w.heap.size w w'
set_option maxHeartbeats 4000000 in
set_option maxRecDepth 100000 in
theorem new_any (w : World) (hk : w.rangeAt 1 0 (u32s ks)) :
    Calls Tryd.prog 18 #[] w (NewPost w) := by
  have hk1 : 1 < w.heap.size := range_lt hk (by simp [u32s, ks])
  have HKW : Hid (∀ w', Below w.heap.size w w' → w'.rangeAt 1 0 (u32s ks)) := Lib.hid fun w' hb => range_block hk (hb.block _ hk1)
  have CN : Hid (∀ w0, w0.rangeAt 1 0 (u32s ks) → Calls Tryd.prog 23 #[] w0 fun e w' => e = .returned (.agg (u8s (bareD 0)).toArray) ∧ Below w0.heap.size w0 w') := Lib.hid fun w0 h => anone_any w0 h
  have CJ : Hid (∀ (k : Nat) w0, k < 4 → w0.rangeAt 1 0 (u32s ks) → Calls Tryd.prog 28 #[.int .i64 ((k + 1 : Nat) : Int), .agg (u8s (bareD k)).toArray, .agg (u8s (bareD k)).toArray] w0 fun e w' => e = .returned (.agg (u8s (bareD (k + 1))).toArray) ∧ Below w0.heap.size w0 w') := Lib.hid fun k w0 hk4 h => join_any (k + 1) _ _ w0 (by omega) (bareD_ok k) (bareD_ok k) h
  clear hk hk1
  have BT := Lib.hid built_tree
  go_enter Tryd.func18, Tryd.ntmps18
  go_wp2_with (first
    | ((with_reducible refine at_slot 3 ?_); (refine arm_makeMapI (o := ⟨some 3, _, _, _, _, _⟩) rfl _ _ rfl rfl VA ?_); intro mb v1 me hm nm)
    | ((with_reducible refine at_slot 4 ?_); (refine arm_build (o := ⟨some 4, _, _, _, _, _⟩) rfl _ _ rfl (tcs mb z5) (by simp only [List.map_toArray, List.map_cons, List.map_nil]; exact BT.out mb) ?_))
    | ((with_reducible refine at_slot 5 ?_); (refine arm_box (o := ⟨some 5, _, _, _, _, _⟩) rfl _ _ rfl (tcs mb z5) rfl ?_); intro B v2 Be hv2 nv2))
  have gemb : w.heap.size ≤ mb := by have := me.out; omega
  have geB : w.heap.size ≤ B := by have := Be.out; have := nm.size; omega
  have bel0 : Below w.heap.size w v2 := below_step nm.below nm.below.size nv2.below
  have m0 : IMap v2 mb VA bare := hm.old nv2.below
  clear me hm nm Be nv2
  refine wp_region_held (S := fun w' => True) (by kernel_rfl) ?_
  change wpAnyH _ _ _ _ _ _ _ _ v2.drew
  have hd1 : Below v2.heap.size v2 v2.drew := (Below.refl _ _).drew
  have B_2 : Row v2.drew B 81 (tcs mb z5) := hv2.old hd1
  have M_2 : IMap v2.drew mb VA bare := m0.old hd1
  have bel_2 : Below w.heap.size w v2.drew := below_step bel0 bel0.size hd1
  clear hv2 m0 bel0 hd1
  generalize v2.drew = yz1 at B_2 M_2 bel_2 ⊢
  refine h_take 0 (.pointer (some ⟨B, 0, none⟩)) rfl 6 rfl (by kernel_rfl) (by kernel_rfl) (by kernel_rfl) (by kernel_rfl) (fun _ _ _ h => h) (fun w' _ => by kernel_rfl) trivial ?_
  simp only [Act.put, List.setIfInBounds_toArray, List.set_cons_zero, List.set_cons_succ]
  refine h_take 2 (.pointer (some ⟨B, 0, none⟩)) rfl 8 rfl (by kernel_rfl) (by kernel_rfl) (by kernel_rfl) (by kernel_rfl) (fun _ _ _ h => h) (fun w' _ => by kernel_rfl) trivial ?_
  simp only [Act.put, List.setIfInBounds_toArray, List.set_cons_zero, List.set_cons_succ]
  refine h_take 3 (.pointer (some ⟨B, 1, none⟩)) rfl 9 rfl (by kernel_rfl) (by kernel_rfl) (by kernel_rfl) (by kernel_rfl) (fun _ _ _ h => h) (fun w' _ => by kernel_rfl) trivial ?_
  simp only [Act.put, List.setIfInBounds_toArray, List.set_cons_zero, List.set_cons_succ]
  refine h_one (i := 1) (by kernel_rfl) (o_call rfl 7 rfl (by kernel_rfl) (run_op_call 23 _ _ rfl #[] (by simp only [List.map_toArray, List.map_nil]) Tryd.func23 (by kernel_rfl) (by kernel_rfl) _) (CN.out _ (HKW.out _ bel_2)) ?_)
  rintro e y3 ⟨rfl, hB⟩
  have B_4 : Row y3 B 81 (tcs mb z5) := B_2.old hB
  have M_4 : IMap y3 mb VA bare := M_2.old hB
  have bel_4 : Below w.heap.size w y3 := below_step bel_2 bel_2.size hB
  clear B_2 M_2 bel_2 hB
  refine ⟨_, rfl, trivial, ?_⟩
  simp only [Act.put, List.setIfInBounds_toArray, List.set_cons_zero, List.set_cons_succ]
  refine h_take 4 (.pointer (some ⟨B, 1, none⟩)) rfl 10 rfl (by kernel_rfl) (by kernel_rfl) (by kernel_rfl) (by kernel_rfl) (fun _ _ _ h => h) (fun w' _ => run_op_arr _ _ _ rfl 5 23 32 (by kernel_rfl) (by kernel_rfl) B 1 rfl .i64 _ rfl 0 rfl (by omega) (1) (rfl) w') trivial ?_
  simp only [Act.put, List.setIfInBounds_toArray, List.set_cons_zero, List.set_cons_succ]
  have hmB : mb ≠ B := M_4.row B_4
  refine h_one (i := 5) (by kernel_rfl) (o_skip rfl rfl (by kernel_rfl) (run_op_store _ _ _ rfl B (1 + 32 * 0) rfl (u8s (bareD 0)) rfl _ _ B_4 (by rw [tcs_len mb z5_ok rfl, h_len (bareD_ok 0)]; omega) (u8s_one _) (szH (bareD_ok 0))) ?_)
  have rq := row_setRow B_4 (lay (tcs mb z5) (1 + 32 * 0) (u8s (bareD 0)))
  have oq := Only.setRow B y3 (lay (tcs mb z5) (1 + 32 * 0) (u8s (bareD 0))).toArray
  generalize y3.setRow B (lay (tcs mb z5) (1 + 32 * 0) (u8s (bareD 0))).toArray = y5 at rq oq ⊢
  have B_6 : Row y5 B 81 (tcs mb (bl 0)) := rq.congr (tree_lay mb z5_ok (bareD_ok 0) (by decide))
  have M_6 : IMap y5 mb VA bare := M_4.only oq hmB
  have bel_6 : Below w.heap.size w y5 := below_only bel_4 oq geB bel_4.size
  clear B_4 M_4 bel_4 oq
  clear rq
  refine ⟨trivial, ?_⟩
  refine wpAnyH_done (by kernel_rfl) ?_ _
  go_wp2_with fail
  try simp only [Act.put]
  have h0 : NwRel w B mb (.int .i64 0) y5 := ⟨⟨0, by omega, rfl, B_6⟩, M_6, bel_6⟩
  clear B_6 M_6 bel_6 CN BT
  go_loopw [11] (fun i wr => NwRel w B mb i wr) (fun i _ => 4 - (intOf i).toNat)
  case atStart => exact h0
  case round =>
    clear h0
    obtain ⟨⟨k, hk, rfl, hrow⟩, hmap, bel⟩ := hrel
    by_cases hlt : k < 4
    · have ik : (k : Int) < 4 := by omega
      have hD : wr.rangeAt B (1 + 32 * k) (u8s (bareD k)) := (tree_has mb (bl_ok k) (bl_get k hk)).range hrow
      have hw1 : IntKind.i64.wrap ((k : Int) + 1) = ((k + 1 : Nat) : Int) := by rw [IntKind.wrap_i64]; omega
      have HW1 := Lib.hid hw1
      have CJ := Lib.hid (CJ.out k)
      clear hw1
      go_wp2_with fail
      refine wp_region_held (S := fun w' => w'.rangeAt B (1 + 32 * k) (u8s (bareD k)) ∧ True) (by kernel_rfl) ?_
      change wpAnyH _ _ _ _ _ _ _ _ wr.drew
      have hd201 : Below wr.heap.size wr wr.drew := (Below.refl _ _).drew
      have B_202 : Row wr.drew B 81 (tcs mb (bl k)) := hrow.old hd201
      have M_202 : IMap wr.drew mb VA bare := hmap.old hd201
      have D_202 : wr.drew.rangeAt B (1 + 32 * k) (u8s (bareD k)) := range_old hD hd201
      have bel_202 : Below w.heap.size w wr.drew := below_step bel bel.size hd201
      clear hrow hmap hD bel hd201
      generalize wr.drew = yz201 at B_202 M_202 D_202 bel_202 ⊢
      refine h_take 0 (.pointer (some ⟨B, 0, none⟩)) rfl 14 rfl (by kernel_rfl) (by kernel_rfl) (by kernel_rfl) (by kernel_rfl) (fun _ _ _ h => h) (fun w' _ => by kernel_rfl) ⟨D_202, trivial⟩ ?_
      simp only [Act.put, List.setIfInBounds_toArray, List.set_cons_zero, List.set_cons_succ]
      refine h_take 1 (.int .i64 (k : Int)) rfl 15 rfl (by kernel_rfl) (by kernel_rfl) (by kernel_rfl) (by kernel_rfl) (fun _ _ _ h => h) (fun w' _ => by kernel_rfl) ⟨D_202, trivial⟩ ?_
      simp only [Act.put, List.setIfInBounds_toArray, List.set_cons_zero, List.set_cons_succ]
      refine h_take 2 (.int .i64 ((k + 1 : Nat) : Int)) rfl 16 rfl (by kernel_rfl) (by kernel_rfl) (by kernel_rfl) (by kernel_rfl) (fun _ _ _ h => h) (fun w' _ => run_op_addK _ _ _ _ rfl _ _ _ rfl rfl HW1.out w') ⟨D_202, trivial⟩ ?_
      simp only [Act.put, List.setIfInBounds_toArray, List.set_cons_zero, List.set_cons_succ]
      refine h_take 3 (.int .i64 (k : Int)) rfl 17 rfl (by kernel_rfl) (by kernel_rfl) (by kernel_rfl) (by kernel_rfl) (fun _ _ _ h => h) (fun w' _ => by kernel_rfl) ⟨D_202, trivial⟩ ?_
      simp only [Act.put, List.setIfInBounds_toArray, List.set_cons_zero, List.set_cons_succ]
      refine h_take 4 (.int .i64 ((k + 1 : Nat) : Int)) rfl 18 rfl (by kernel_rfl) (by kernel_rfl) (by kernel_rfl) (by kernel_rfl) (fun _ _ _ h => h) (fun w' _ => run_op_addK _ _ _ _ rfl _ _ _ rfl rfl HW1.out w') ⟨D_202, trivial⟩ ?_
      simp only [Act.put, List.setIfInBounds_toArray, List.set_cons_zero, List.set_cons_succ]
      refine h_take 5 (.pointer (some ⟨B, 0, none⟩)) rfl 19 rfl (by kernel_rfl) (by kernel_rfl) (by kernel_rfl) (by kernel_rfl) (fun _ _ _ h => h) (fun w' _ => by kernel_rfl) ⟨D_202, trivial⟩ ?_
      simp only [Act.put, List.setIfInBounds_toArray, List.set_cons_zero, List.set_cons_succ]
      refine h_take 6 (.int .i64 (k : Int)) rfl 20 rfl (by kernel_rfl) (by kernel_rfl) (by kernel_rfl) (by kernel_rfl) (fun _ _ _ h => h) (fun w' _ => by kernel_rfl) ⟨D_202, trivial⟩ ?_
      simp only [Act.put, List.setIfInBounds_toArray, List.set_cons_zero, List.set_cons_succ]
      refine h_take 7 (.pointer (some ⟨B, 0, none⟩)) rfl 21 rfl (by kernel_rfl) (by kernel_rfl) (by kernel_rfl) (by kernel_rfl) (fun _ _ _ h => h) (fun w' _ => by kernel_rfl) ⟨D_202, trivial⟩ ?_
      simp only [Act.put, List.setIfInBounds_toArray, List.set_cons_zero, List.set_cons_succ]
      refine h_take 8 (.pointer (some ⟨B, 1, none⟩)) rfl 22 rfl (by kernel_rfl) (by kernel_rfl) (by kernel_rfl) (by kernel_rfl) (fun _ _ _ h => h) (fun w' _ => by kernel_rfl) ⟨D_202, trivial⟩ ?_
      simp only [Act.put, List.setIfInBounds_toArray, List.set_cons_zero, List.set_cons_succ]
      refine h_take 9 (.pointer (some ⟨B, 1 + 32 * k, none⟩)) rfl 23 rfl (by kernel_rfl) (by kernel_rfl) (by kernel_rfl) (by kernel_rfl) (fun _ _ _ h => h) (fun w' _ => run_op_arr _ _ _ rfl 5 23 32 (by kernel_rfl) (by kernel_rfl) B 1 rfl .i64 _ rfl k rfl (by omega) (1 + 32 * k) (by omega) w') ⟨D_202, trivial⟩ ?_
      simp only [Act.put, List.setIfInBounds_toArray, List.set_cons_zero, List.set_cons_succ]
      refine h_take 10 (.agg (u8s (bareD k)).toArray) rfl 24 rfl (by kernel_rfl) (by kernel_rfl) (by kernel_rfl) (by kernel_rfl) (fun _ _ _ h => h) (fun w' hw => run_op_load _ _ rfl B (1 + 32 * k) rfl (u8s (bareD k)) hw.1 (szH (bareD_ok k))) ⟨D_202, trivial⟩ ?_
      simp only [Act.put, List.setIfInBounds_toArray, List.set_cons_zero, List.set_cons_succ]
      refine h_take 11 (.pointer (some ⟨B, 0, none⟩)) rfl 25 rfl (by kernel_rfl) (by kernel_rfl) (by kernel_rfl) (by kernel_rfl) (fun _ _ _ h => h) (fun w' _ => by kernel_rfl) ⟨D_202, trivial⟩ ?_
      simp only [Act.put, List.setIfInBounds_toArray, List.set_cons_zero, List.set_cons_succ]
      refine h_take 12 (.int .i64 (k : Int)) rfl 26 rfl (by kernel_rfl) (by kernel_rfl) (by kernel_rfl) (by kernel_rfl) (fun _ _ _ h => h) (fun w' _ => by kernel_rfl) ⟨D_202, trivial⟩ ?_
      simp only [Act.put, List.setIfInBounds_toArray, List.set_cons_zero, List.set_cons_succ]
      refine h_take 13 (.pointer (some ⟨B, 0, none⟩)) rfl 27 rfl (by kernel_rfl) (by kernel_rfl) (by kernel_rfl) (by kernel_rfl) (fun _ _ _ h => h) (fun w' _ => by kernel_rfl) ⟨D_202, trivial⟩ ?_
      simp only [Act.put, List.setIfInBounds_toArray, List.set_cons_zero, List.set_cons_succ]
      refine h_take 14 (.pointer (some ⟨B, 1, none⟩)) rfl 28 rfl (by kernel_rfl) (by kernel_rfl) (by kernel_rfl) (by kernel_rfl) (fun _ _ _ h => h) (fun w' _ => by kernel_rfl) ⟨D_202, trivial⟩ ?_
      simp only [Act.put, List.setIfInBounds_toArray, List.set_cons_zero, List.set_cons_succ]
      refine h_take 15 (.pointer (some ⟨B, 1 + 32 * k, none⟩)) rfl 29 rfl (by kernel_rfl) (by kernel_rfl) (by kernel_rfl) (by kernel_rfl) (fun _ _ _ h => h) (fun w' _ => run_op_arr _ _ _ rfl 5 23 32 (by kernel_rfl) (by kernel_rfl) B 1 rfl .i64 _ rfl k rfl (by omega) (1 + 32 * k) (by omega) w') ⟨D_202, trivial⟩ ?_
      simp only [Act.put, List.setIfInBounds_toArray, List.set_cons_zero, List.set_cons_succ]
      refine h_take 16 (.agg (u8s (bareD k)).toArray) rfl 30 rfl (by kernel_rfl) (by kernel_rfl) (by kernel_rfl) (by kernel_rfl) (fun _ _ _ h => h) (fun w' hw => run_op_load _ _ rfl B (1 + 32 * k) rfl (u8s (bareD k)) hw.1 (szH (bareD_ok k))) ⟨D_202, trivial⟩ ?_
      simp only [Act.put, List.setIfInBounds_toArray, List.set_cons_zero, List.set_cons_succ]
      refine h_take 18 (.pointer (some ⟨B, 0, none⟩)) rfl 32 rfl (by kernel_rfl) (by kernel_rfl) (by kernel_rfl) (by kernel_rfl) (fun _ _ _ h => h) (fun w' _ => by kernel_rfl) ⟨D_202, trivial⟩ ?_
      simp only [Act.put, List.setIfInBounds_toArray, List.set_cons_zero, List.set_cons_succ]
      refine h_take 19 (.pointer (some ⟨B, 1, none⟩)) rfl 33 rfl (by kernel_rfl) (by kernel_rfl) (by kernel_rfl) (by kernel_rfl) (fun _ _ _ h => h) (fun w' _ => by kernel_rfl) ⟨D_202, trivial⟩ ?_
      simp only [Act.put, List.setIfInBounds_toArray, List.set_cons_zero, List.set_cons_succ]
      refine h_one (i := 17) (by kernel_rfl) (o_call rfl 31 rfl (by kernel_rfl) (run_op_call 28 _ _ rfl #[.int .i64 ((k + 1 : Nat) : Int), .agg (u8s (bareD k)).toArray, .agg (u8s (bareD k)).toArray] (by simp only [List.map_toArray, List.map_cons, List.map_nil]; rfl) Tryd.func28 (by kernel_rfl) (by kernel_rfl) _) (CJ.out _ hlt (HKW.out _ bel_202)) ?_)
      rintro e y203 ⟨rfl, hB⟩
      have B_204 : Row y203 B 81 (tcs mb (bl k)) := B_202.old hB
      have M_204 : IMap y203 mb VA bare := M_202.old hB
      have D_204 : y203.rangeAt B (1 + 32 * k) (u8s (bareD k)) := range_old D_202 hB
      have bel_204 : Below w.heap.size w y203 := below_step bel_202 bel_202.size hB
      clear B_202 M_202 D_202 bel_202 hB
      refine ⟨_, rfl, ⟨D_204, trivial⟩, ?_⟩
      simp only [Act.put, List.setIfInBounds_toArray, List.set_cons_zero, List.set_cons_succ]
      refine h_take 20 (.pointer (some ⟨B, 1 + 32 * (k + 1), none⟩)) rfl 34 rfl (by kernel_rfl) (by kernel_rfl) (by kernel_rfl) (by kernel_rfl) (fun _ _ _ h => h) (fun w' _ => run_op_arr _ _ _ rfl 5 23 32 (by kernel_rfl) (by kernel_rfl) B 1 rfl .i64 _ rfl (k + 1) rfl (by omega) (1 + 32 * (k + 1)) (by omega) w') ⟨D_204, trivial⟩ ?_
      simp only [Act.put, List.setIfInBounds_toArray, List.set_cons_zero, List.set_cons_succ]
      have hmB : mb ≠ B := M_204.row B_204
      refine h_one (i := 21) (by kernel_rfl) (o_skip rfl rfl (by kernel_rfl) (run_op_store _ _ _ rfl B (1 + 32 * (k + 1)) rfl (u8s (bareD (k + 1))) rfl _ _ B_204 (by rw [tcs_len mb (bl_ok k) (bl_len k), h_len (bareD_ok (k + 1))]; omega) (u8s_one _) (szH (bareD_ok (k + 1)))) ?_)
      have rq := row_setRow B_204 (lay (tcs mb (bl k)) (1 + 32 * (k + 1)) (u8s (bareD (k + 1))))
      have oq := Only.setRow B y203 (lay (tcs mb (bl k)) (1 + 32 * (k + 1)) (u8s (bareD (k + 1)))).toArray
      generalize y203.setRow B (lay (tcs mb (bl k)) (1 + 32 * (k + 1)) (u8s (bareD (k + 1)))).toArray = y205 at rq oq ⊢
      have B_206 : Row y205 B 81 (tcs mb (bl (k + 1))) := rq.congr (tree_lay mb (bl_ok k) (bareD_ok (k + 1)) (by rw [bl_len]; omega))
      have M_206 : IMap y205 mb VA bare := M_204.only oq hmB
      have D_206 : y205.rangeAt B (1 + 32 * k) (u8s (bareD k)) := (tree_has mb (bl_ok (k + 1)) (bl_prev hk)).range (rq.congr (tree_lay mb (bl_ok k) (bareD_ok (k + 1)) (by rw [bl_len]; omega)))
      have bel_206 : Below w.heap.size w y205 := below_only bel_204 oq geB bel_204.size
      clear B_204 M_204 D_204 bel_204 oq
      clear rq
      refine ⟨⟨D_206, trivial⟩, ?_⟩
      refine wpAnyH_done (by kernel_rfl) ?_ _
      go_wp2_with fail
      try simp only [Act.put]
      go_roundw
      case rel => exact ⟨⟨k + 1, by omega, by go_num, B_206⟩, M_206, bel_206⟩
      case measure => simp [intOf]; omega
    · obtain rfl : k = 4 := by omega
      go_wp2_with fail
      go_ret
      exact ⟨⟨B, mb, rfl, ⟨hrow, hmap⟩, geB, gemb⟩, bel⟩
end Go.Proofs.YtaihhbiocolhcaaDoor.Tr

/-
  The contracts of package tree's Set, Drop, Get and Len. Over this seat's translation.
-/
namespace Go.Proofs.YtaihhbiocolhcaaDoor.Tr
open Go.ChangeShapes Go.WideShapes Go.ChangeAt Go.RowKit Go.Proofs.YtaihhbiocolhcaaDoor.Mem Go.Proofs.YtaihhbiocolhcaaDoor.Bt Go.Proofs.YtaihhbiocolhcaaDoor.Wi Go.Proofs.YtaihhbiocolhcaaDoor.Sha Go.Proofs.YtaihhbiocolhcaaDoor.Ac Go.Proofs.YtaihhbiocolhcaaDoor.Im
open Go.Proofs.YtaihhbiocolhcaaDoor.Tg (bytesOf bytesOf_length bytesOf_lt bytesOf_inj Rd Rd.below Parts parts_one arm_one tagD tagD_len tagOf_any refTag_any total)
open Go.Proofs.YtaihhbiocolhcaaDoor.Ep (H32 zh zh_ok Has h_len szH zH fitH allH came_at)
set_option linter.unusedVariables false
set_option linter.unusedSimpArgs false

theorem cell_old {w w' : World} {B : Nat} {v : Value} (h : w.cell? ⟨B, 0, none⟩ = some v) (hb : Below w.heap.size w w') : w'.cell? ⟨B, 0, none⟩ = some v := by
  rw [World.cell?_of_block (w := w) (a := ⟨B, 0, none⟩) (hb.block B (block_lt_of_cell h))]
  exact h
structure SetPost (w : World) (B mb : Nat) (t : Tree) (p : Int) (a : Acct) (e : Ending) (w' : World) : Prop where
  ret : e = .returned (.int .i64 (setE p a : Int))
  tr : TrAt w' B mb (setR t p a)
  ow : Only mb w w'
structure DropPost (w : World) (B mb : Nat) (t : Tree) (p : Int) (e : Ending) (w' : World) : Prop where
  ret : e = .returned (.bool (atI t p).isSome)
  tr : TrAt w' B mb (dropR t p)
  ow : Only mb w w'
structure GetPost (w : World) (t : Tree) (p : Int) (e : Ending) (w' : World) : Prop where
  ret : e = .returned (.tuple #[.agg (acs ((atI t p).getD za)).toArray, .bool (atI t p).isSome])
  bel : Below w.heap.size w w'
set_option maxHeartbeats 4000000 in
set_option maxRecDepth 100000 in
theorem set_any (B mb : Nat) (t : Tree) (p : Int) (a : Acct) (w : World) (ht : TrAt w B mb t) (hp : Is64 p) :
    Calls Tryd.prog 19 #[.pointer (some ⟨B, 0, none⟩), .int .i64 p, .agg (acs a).toArray] w (SetPost w B mb t p a) := by
  have CT := Lib.hid (fun w0 => there_any p w0)
  have CR := Lib.hid (fun w0 => aright_any a w0)
  by_cases hin : 0 ≤ p ∧ p < 16
  · rw [decide_eq_true hin] at CT
    by_cases hr : NRt a.nm
    · rw [decide_eq_true hr] at CR
      have hs : SetOk p a := ⟨hin, hr⟩
      have HE : Hid (setE p a = 0) := Lib.hid (by unfold setE; rw [if_pos hs])
      have HT : Hid (setM t p.toNat (some a) = setR t p a) := Lib.hid (by unfold setR; rw [if_pos hs]; rfl)
      obtain ⟨k, hk⟩ : ∃ k : Nat, p = (k : Int) := ⟨p.toNat, by omega⟩
      subst hk
      have HP := Lib.hid hp
      have KA := Lib.hid (sz_acc a)
      have HV : Hid (Value.agg (acs a).toArray = VA a) := Lib.hid rfl
      have e0 : ((k : Int)).toNat = k := Int.toNat_natCast k
      rw [e0] at HT
      clear hs hin hr hp e0
      go_enter Tryd.func19, Tryd.ntmps19
      go_wp2_with (first
        | ((with_reducible refine at_slot 5 ?_); (refine arm_box (o := ⟨some 5, _, _, _, _, _⟩) rfl _ _ rfl (acs a) rfl ?_); intro X v1 Xe hv1 nv1))
      have hbv1 := nv1.below
      have rrv1 : Row v1 X 27 (acs a) := hv1
      have geX : w.heap.size ≤ X := by have := Xe.out; omega
      clear hv1 nv1 Xe
      have T_2 : TrAt v1 B mb t := ht.old hbv1
      have bel_2 : Below w.heap.size w v1 := hbv1
      clear ht hbv1
      go_wp2_with fail
      refine (CT.out _).mono ?_
      rintro e z3 ⟨rfl, rfl⟩
      go_wp2_with (first
        | ((with_reducible refine at_slot 11 ?_); (refine arm_want (.agg (acs a).toArray) 11 rfl (by kernel_rfl) (run_op_load _ _ rfl X 0 rfl (acs a) ((Has.refl _).range rrv1) KA.out) ?_)))
      refine (CR.out _).mono ?_
      rintro e y4 ⟨rfl, hB⟩
      have T_5 : TrAt y4 B mb t := T_2.old hB
      have X_5 : Row y4 X 27 (acs a) := rrv1.old hB
      have bel_5 : Below w.heap.size w y4 := below_step bel_2 bel_2.size hB
      clear T_2 rrv1 bel_2 hB
      go_wp2_with fail
      have hC := T_5.c0
      refine wp_region_held (S := fun w' => Row w' X 27 (acs a) ∧ w'.cell? ⟨B, 0, none⟩ = some (.map (some mb)) ∧ True) (by kernel_rfl) ?_
      change wpAnyH _ _ _ _ _ _ _ _ y4.drew
      have hd6 : Below y4.heap.size y4 y4.drew := (Below.refl _ _).drew
      have T_7 : TrAt y4.drew B mb t := T_5.old hd6
      have X_7 : Row y4.drew X 27 (acs a) := X_5.old hd6
      have C_7 : y4.drew.cell? ⟨B, 0, none⟩ = some (.map (some mb)) := cell_old hC hd6
      have bel_7 : Below w.heap.size w y4.drew := below_step bel_5 bel_5.size hd6
      clear T_5 X_5 hC bel_5 hd6
      generalize y4.drew = yz6 at T_7 X_7 C_7 bel_7 ⊢
      refine h_take 0 (.pointer (some ⟨B, 0, none⟩)) rfl 15 rfl (by kernel_rfl) (by kernel_rfl) (by kernel_rfl) (by kernel_rfl) (fun _ _ _ h => h) (fun w' _ => by kernel_rfl) ⟨X_7, C_7, trivial⟩ ?_
      simp only [Act.put, List.setIfInBounds_toArray, List.set_cons_zero, List.set_cons_succ]
      refine h_take 1 (.pointer (some ⟨B, 0, none⟩)) rfl 16 rfl (by kernel_rfl) (by kernel_rfl) (by kernel_rfl) (by kernel_rfl) (fun _ _ _ h => h) (fun w' _ => by kernel_rfl) ⟨X_7, C_7, trivial⟩ ?_
      simp only [Act.put, List.setIfInBounds_toArray, List.set_cons_zero, List.set_cons_succ]
      refine h_take 2 (.pointer (some ⟨B, 0, none⟩)) rfl 17 rfl (by kernel_rfl) (by kernel_rfl) (by kernel_rfl) (by kernel_rfl) (fun _ _ _ h => h) (fun w' _ => by kernel_rfl) ⟨X_7, C_7, trivial⟩ ?_
      simp only [Act.put, List.setIfInBounds_toArray, List.set_cons_zero, List.set_cons_succ]
      refine h_take 3 (.map (some mb)) rfl 18 rfl (by kernel_rfl) (by kernel_rfl) (by kernel_rfl) (by kernel_rfl) (fun _ _ _ h => h) (fun w' hw => run_op_load1 _ _ rfl (.map 3 27) und_map rfl ⟨B, 0, none⟩ rfl _ hw.2.1) ⟨X_7, C_7, trivial⟩ ?_
      simp only [Act.put, List.setIfInBounds_toArray, List.set_cons_zero, List.set_cons_succ]
      refine h_take 4 (.int .i64 (k : Int)) rfl 19 rfl (by kernel_rfl) (by kernel_rfl) (by kernel_rfl) (by kernel_rfl) (fun _ _ _ h => h) (fun w' _ => by kernel_rfl) ⟨X_7, C_7, trivial⟩ ?_
      simp only [Act.put, List.setIfInBounds_toArray, List.set_cons_zero, List.set_cons_succ]
      refine h_take 5 (.agg (acs a).toArray) rfl 20 rfl (by kernel_rfl) (by kernel_rfl) (by kernel_rfl) (by kernel_rfl) (fun _ _ _ h => h) (fun w' hw => run_op_load _ _ rfl X (0) rfl (acs a) (((Has.refl _)).range hw.1) (KA.out)) ⟨X_7, C_7, trivial⟩ ?_
      simp only [Act.put, List.setIfInBounds_toArray, List.set_cons_zero, List.set_cons_succ]
      have hBm := T_7.ne
      refine h_one (i := 6) (by kernel_rfl) (o_updateI rfl rfl (by kernel_rfl) _ _ _ _ rfl rfl k rfl a HV.out (T_7.map) und_int und_map HP.out ?_)
      intro y hm2 how hsz
      rw [HT.out] at hm2
      have rT : TrAt y B mb (setR t (k : Int) a) := ⟨T_7.row.only how (Ne.symm hBm), hm2⟩
      refine ⟨⟨X_7.only how (Ne.symm (T_7.map.row X_7)), rT.c0, trivial⟩, ?_⟩
      have hO : Only mb w y := (Only.of_below mb bel_7).trans how
      clear T_7 X_7 C_7 bel_7 how hm2 hsz
      refine wpAnyH_done (by kernel_rfl) ?_ _
      go_wp2_with fail
      go_ret
      exact ⟨by rw [HE.out]; rfl, rT, hO⟩
    · rw [decide_eq_false hr] at CR
      have hs : ¬ SetOk p a := fun h => hr h.2
      have HE : Hid (setE p a = 1) := Lib.hid (by unfold setE; rw [if_neg hs])
      have HT : Hid (t = setR t p a) := Lib.hid (by unfold setR; rw [if_neg hs])
      have KA := Lib.hid (sz_acc a)
      clear hs hin hr hp
      go_enter Tryd.func19, Tryd.ntmps19
      go_wp2_with (first
        | ((with_reducible refine at_slot 5 ?_); (refine arm_box (o := ⟨some 5, _, _, _, _, _⟩) rfl _ _ rfl (acs a) rfl ?_); intro X v1 Xe hv1 nv1))
      have hbv1 := nv1.below
      have rrv1 : Row v1 X 27 (acs a) := hv1
      have geX : w.heap.size ≤ X := by have := Xe.out; omega
      clear hv1 nv1 Xe
      have T_2 : TrAt v1 B mb t := ht.old hbv1
      have bel_2 : Below w.heap.size w v1 := hbv1
      clear ht hbv1
      go_wp2_with fail
      refine (CT.out _).mono ?_
      rintro e z3 ⟨rfl, rfl⟩
      go_wp2_with (first
        | ((with_reducible refine at_slot 11 ?_); (refine arm_want (.agg (acs a).toArray) 11 rfl (by kernel_rfl) (run_op_load _ _ rfl X 0 rfl (acs a) ((Has.refl _).range rrv1) KA.out) ?_)))
      refine (CR.out _).mono ?_
      rintro e y4 ⟨rfl, hB⟩
      have T_5 : TrAt y4 B mb t := T_2.old hB
      have X_5 : Row y4 X 27 (acs a) := rrv1.old hB
      have bel_5 : Below w.heap.size w y4 := below_step bel_2 bel_2.size hB
      clear T_2 rrv1 bel_2 hB
      go_wp2_with fail
      go_ret
      exact ⟨by rw [HE.out]; rfl, T_5.congr HT.out, Only.of_below mb bel_5⟩
  · rw [decide_eq_false hin] at CT
    have hs : ¬ SetOk p a := fun h => hin h.1
    have HE : Hid (setE p a = 1) := Lib.hid (by unfold setE; rw [if_neg hs])
    have HT : Hid (t = setR t p a) := Lib.hid (by unfold setR; rw [if_neg hs])
    have KA := Lib.hid (sz_acc a)
    clear hs hin hp
    go_enter Tryd.func19, Tryd.ntmps19
    go_wp2_with (first
      | ((with_reducible refine at_slot 5 ?_); (refine arm_box (o := ⟨some 5, _, _, _, _, _⟩) rfl _ _ rfl (acs a) rfl ?_); intro X v1 Xe hv1 nv1))
    have hbv1 := nv1.below
    have rrv1 : Row v1 X 27 (acs a) := hv1
    have geX : w.heap.size ≤ X := by have := Xe.out; omega
    clear hv1 nv1 Xe
    have T_2 : TrAt v1 B mb t := ht.old hbv1
    have bel_2 : Below w.heap.size w v1 := hbv1
    clear ht hbv1
    go_wp2_with fail
    refine (CT.out _).mono ?_
    rintro e z3 ⟨rfl, rfl⟩
    go_wp2_with fail
    go_ret
    exact ⟨by rw [HE.out]; rfl, T_2.congr HT.out, Only.of_below mb bel_2⟩
set_option maxHeartbeats 4000000 in
set_option maxRecDepth 100000 in
theorem get_any (B mb : Nat) (t : Tree) (p : Int) (w : World) (ht : TrAt w B mb t) (hp : Is64 p) :
    Calls Tryd.prog 21 #[.pointer (some ⟨B, 0, none⟩), .int .i64 p] w (GetPost w t p) := by
  have HP := Lib.hid hp
  obtain ⟨x, hx⟩ : ∃ x, x = (atI t p).getD za := ⟨_, rfl⟩
  obtain ⟨b, hb⟩ : ∃ b, b = (atI t p).isSome := ⟨_, rfl⟩
  have HV : Hid ((if true then Value.tuple #[valO (VA za) VA (atI t p), .bool (atI t p).isSome] else valO (VA za) VA (atI t p)) = .tuple #[.agg (acs x).toArray, .bool b]) := Lib.hid (by rw [if_pos rfl, val_acc, ← hx, ← hb])
  have HX := Lib.hid hx; have HB := Lib.hid hb
  have KX := Lib.hid (sz_acc x)
  have hc0 := ht.c0
  clear hp hx hb
  go_enter Tryd.func21, Tryd.ntmps21
  have hm := ht.map
  have htl := ht
  go_wp2_with (first
    | ((with_reducible refine at_slot 4 ?_); (refine arm_alloc (o := ⟨some 4, _, _, _, _, _⟩) rfl _ rfl (acs za) z_acc ?_); intro Z v1 Ze hv1 nv1; have hc1 := (ht.old nv1.below).c0; have hm1 := (ht.old nv1.below).map)
    | ((with_reducible refine at_slot 14 ?_); (refine arm_lookupI (o := ⟨some 14, _, _, _, _, _⟩) rfl _ _ _ true rfl rfl p rfl hm1 und_int und_map (VA za) (zero_acc _) HP.out (.tuple #[.agg (acs x).toArray, .bool b]) HV.out ?_))
    | ((with_reducible refine at_slot 6 ?_); (refine arm_alloc (o := ⟨some 6, _, _, _, _, _⟩) rfl _ rfl (acs za) z_acc ?_); intro R v2 Re hv2 nv2)
    | ((with_reducible refine arm_store (o := ⟨none, _, _, _, _, _⟩) rfl _ _ _ rfl R 0 rfl (acs x) rfl _ _ hv2 (fitA x) (acs_one x) KX.out ?_); intro v3 hv3 ov3 sv3)
    | ((with_reducible refine at_slot 17 ?_); (refine arm_load (o := ⟨some 17, _, _, _, _, _⟩) rfl _ _ rfl R 0 rfl (acs x) ((Has.refl _).range (hv3.congr (allA x))) KX.out ?_))
    | ((with_reducible refine arm_store (o := ⟨none, _, _, _, _, _⟩) rfl _ _ _ rfl Z 0 rfl (acs x) rfl _ _ ((hv1.old nv2.below).only ov3 (by have := Re.out; have := hv1.lt; omega)) (fitA x) (acs_one x) KX.out ?_); intro v4 hv4 ov4 sv4))
  have q1 := Ze.out; have q2 := Re.out; have q3 := nv1.size; have q4 := nv2.size
  have b2 : Below w.heap.size w v2 := below_step nv1.below (by omega) nv2.below
  have b3 : Below w.heap.size w v3 := below_only b2 ov3 (by omega) b2.size
  have b4 : Below w.heap.size w v4 := below_only b3 ov4 (by omega) b3.size
  refine bodyPost_ret (result_row2 (p := 4) (u := 5) (ty := 27) (t := 27) (by kernel_rfl) _ _ Z (acs x) (.bool b) rfl rfl (hv4.congr (allA x)) KX.out) rfl ⟨by rw [HX.out, HB.out], b4⟩
end Go.Proofs.YtaihhbiocolhcaaDoor.Tr

/-
  The contracts of package tree's empty and node. Over this seat's translation.
-/
namespace Go.Proofs.YtaihhbiocolhcaaDoor.Tr
open Go.ChangeShapes Go.WideShapes Go.ChangeAt Go.RowKit Go.Proofs.YtaihhbiocolhcaaDoor.Mem Go.Proofs.YtaihhbiocolhcaaDoor.Bt Go.Proofs.YtaihhbiocolhcaaDoor.Wi Go.Proofs.YtaihhbiocolhcaaDoor.Sha Go.Proofs.YtaihhbiocolhcaaDoor.Ac Go.Proofs.YtaihhbiocolhcaaDoor.Im
open Go.Proofs.YtaihhbiocolhcaaDoor.Tg (bytesOf bytesOf_length bytesOf_lt bytesOf_inj Rd Rd.below Parts parts_one arm_one tagD tagD_len tagOf_any refTag_any total)
open Go.Proofs.YtaihhbiocolhcaaDoor.Ep (H32 zh zh_ok Has h_len szH zH fitH allH came_at)
set_option linter.unusedVariables false
set_option linter.unusedSimpArgs false

theorem run_op_shrI {P : Program} {o : Oper} {a : Act} (t t' : TypeId) (x y : Operand) (ho : o.op = .binOp .shr t x y t') (m h : Nat) (hx : a.eval x = .int .i64 (m : Int)) (hy : a.eval y = .int .i64 (h : Int)) (hm : m ≤ 9223372036854775807) (hh : h < 64) (w : World) :
    (execOp a.eval o).run P w = .ok (.value (.int .i64 ((m / 2 ^ h : Nat) : Int))) w := by
  have e := shift_shr .i64 .i64 (m : Int) (h : Int) (by omega) (by simp [IntKind.bits]; omega)
  have e2 : (m : Int) / 2 ^ ((h : Int)).toNat = ((m / 2 ^ h : Nat) : Int) := by simp
  unfold execOp
  simp [ho, hx, hy, eqGuard, binOp, e, e2]
theorem xor_one {q : Nat} (h : q < 16) : IntKind.i64.wrap ((BitVec.ofNat 64 q ^^^ 1#64).toNat : Int) = (sib q : Int) := by
  have : ∀ q : Fin 16, IntKind.i64.wrap ((BitVec.ofNat 64 q.1 ^^^ 1#64).toNat : Int) = (sib q.1 : Int) := by decide
  exact this ⟨q, h⟩
theorem run_op_xorI {P : Program} {o : Oper} {a : Act} (t t' : TypeId) (x y : Operand) (ho : o.op = .binOp .xor t x y t') (q : Nat) (hx : a.eval x = .int .i64 (q : Int)) (hy : a.eval y = .int .i64 1) (hq : q < 16) (w : World) :
    (execOp a.eval o).run P w = .ok (.value (.int .i64 (sib q : Int))) w := by
  have e := xor_one hq
  unfold execOp
  simp only [ho, hx, hy, eqGuard, binOp, Op.intArith, Op.intBits]
  simp [IntKind.bits, Op.intBits, Op.intArith]
  exact e
theorem path_fit {p k : Nat} (hp : p < 16) (hk : k < 4) : (sib (p / 2 ^ k) + 1) * 2 ^ k ≤ 16 := by
  have : ∀ p : Fin 16, ∀ k : Fin 4, (sib (p.1 / 2 ^ k.1) + 1) * 2 ^ k.1 ≤ 16 := by decide
  exact this ⟨p, hp⟩ ⟨k, hk⟩
structure EmptyPost (w : World) (t : Tree) (h i : Nat) (e : Ending) (w' : World) : Prop where
  ex : ∃ b : Bool, e = .returned (.bool b) ∧ (b = true → ∀ k, k / 2 ^ h = i → t k = none) ∧ (b = false → ∃ k a, t k = some a ∧ k / 2 ^ h = i)
  bel : Below w.heap.size w w'
structure EmRel (w : World) (B mb r : Nat) (t : Tree) (h i : Nat) (wr : World) : Prop where
  ex : ∃ cnt, Iter wr mb r VA t (fun k => k / 2 ^ h ≠ i) cnt
  bel : Below w.heap.size w wr
theorem run_op_sub64 {P : Program} {o : Oper} {a : Act} (t t' : TypeId) (x y : Operand) (ho : o.op = .binOp .sub t x y t') (m n r : Int) (hx : a.eval x = .int .i64 m) (hy : a.eval y = .int .i64 n) (hr : IntKind.i64.wrap (m - n) = r) (w : World) :
    (execOp a.eval o).run P w = .ok (.value (.int .i64 r)) w := by
  subst hr
  unfold execOp
  simp [ho, hx, hy, eqGuard, binOp, Op.intArith]
theorem run_op_mul64 {P : Program} {o : Oper} {a : Act} (t t' : TypeId) (x y : Operand) (ho : o.op = .binOp .mul t x y t') (m n r : Int) (hx : a.eval x = .int .i64 m) (hy : a.eval y = .int .i64 n) (hr : IntKind.i64.wrap (m * n) = r) (w : World) :
    (execOp a.eval o).run P w = .ok (.value (.int .i64 r)) w := by
  subst hr
  unfold execOp
  simp [ho, hx, hy, eqGuard, binOp, Op.intArith]
set_option maxHeartbeats 4000000 in
set_option maxRecDepth 100000 in
theorem empty_any (B mb : Nat) (t : Tree) (h i : Nat) (w : World) (ht : TrAt w B mb t) (hg : Good t) (hh : h < 64) :
    Calls Tryd.prog 51 #[.pointer (some ⟨B, 0, none⟩), .int .i64 (h : Int), .int .i64 (i : Int)] w (EmptyPost w t h i) := by
  have hc0 := ht.c0
  have HH := Lib.hid hh
  have HG := Lib.hid hg
  clear hh hg
  go_enter Tryd.func51, Tryd.ntmps51
  go_wp2_with (first
    | ((with_reducible refine at_slot 12 ?_); (refine arm_rangeI (o := ⟨some 12, _, _, _, _, _⟩) rfl _ _ rfl rfl ht.map und_map (fun k => k / 2 ^ h ≠ i) ?_); intro r v1 cnt re hit nr))
  have ger : w.heap.size ≤ r := by have := re.out; omega
  have h0 : EmRel w B mb r t h i v1 := ⟨⟨cnt, hit⟩, nr.below⟩
  clear hit nr re
  try simp only [Act.put]
  try go_frame
  go_loopw [7] (fun _ wr => EmRel w B mb r t h i wr) (fun _ wr => wr.rangeLeft mb r)
  case atStart => exact h0
  case round =>
    clear h0
    obtain ⟨⟨cnt, hit⟩, bel⟩ := hrel
    go_wp2_with (first
      | ((with_reducible refine at_slot 13 ?_); (refine arm_nextI (o := ⟨some 13, _, _, _, _, _⟩) rfl _ rfl rfl hit ?_ ?_)))
    · intro hdone
      go_wp2_with fail
      go_ret
      exact ⟨⟨true, rfl, fun _ k hk => by
        cases hc : t k with
        | none => rfl
        | some a => exact absurd hk (hdone k a hc), fun e => by cases e⟩, bel⟩
    · intro k u w1 hk hw hmore hm1 ho hs hen
      have hk16 := (HG.out k u hk).1
      have bel1 : Below w.heap.size w w1 := below_only bel ho ger bel.size
      by_cases hd : k / 2 ^ h = i
      · clear hmore
        go_wp2_with (first
          | ((with_reducible refine at_slot 19 ?_); (refine arm_want (.int .i64 ((k / 2 ^ h : Nat) : Int)) 19 rfl (by kernel_rfl) (run_op_shrI _ _ _ _ rfl k h rfl rfl (by omega) HH.out _) ?_))
          | ((with_reducible refine at_slot 21 ?_); (refine arm_want (.bool true) 21 rfl (by kernel_rfl) (cmp_eql _ _ .i64 (by kernel_rfl) _ _ rfl .i64 (((k / 2 ^ h : Nat) : Int)) ((i : Int)) rfl rfl true (decide_eq_true (by omega)) _) ?_)))
        go_ret
        exact ⟨⟨false, rfl, fun e => (by cases e), fun _ => ⟨k, u, hk, hd⟩⟩, bel1⟩
      · obtain ⟨cnt', hit', hlt⟩ := hmore hd
        go_wp2_with (first
          | ((with_reducible refine at_slot 19 ?_); (refine arm_want (.int .i64 ((k / 2 ^ h : Nat) : Int)) 19 rfl (by kernel_rfl) (run_op_shrI _ _ _ _ rfl k h rfl rfl (by omega) HH.out _) ?_))
          | ((with_reducible refine at_slot 21 ?_); (refine arm_want (.bool false) 21 rfl (by kernel_rfl) (cmp_eql _ _ .i64 (by kernel_rfl) _ _ rfl .i64 (((k / 2 ^ h : Nat) : Int)) ((i : Int)) rfl rfl false (decide_eq_false (by omega)) _) ?_)))
        try go_frame
        go_roundw
        case rel => exact ⟨⟨cnt', hit'⟩, bel1⟩
        case measure => rw [hit'.left_eq, hit.left_eq]; omega
set_option maxHeartbeats 4000000 in
set_option maxRecDepth 100000 in
theorem node_any (B mb : Nat) (t : Tree) (hg : Good t) : ∀ (h i : Nat) (w : World), h ≤ 4 → (i + 1) * 2 ^ h ≤ 16 → TrAt w B mb t → w.rangeAt 1 0 (u32s ks) →
    Calls Tryd.prog 36 #[.pointer (some ⟨B, 0, none⟩), .int .i64 (h : Int), .int .i64 (i : Int)] w fun e w' => e = .returned (.agg (u8s (nodeD t h i)).toArray) ∧ Below w.heap.size w w' := by
  intro h
  induction h with
  | zero =>
    intro i w h4 hi ht hk
    have hk1 : 1 < w.heap.size := range_lt hk (by simp [u32s, ks])
    have HKW : Hid (∀ w', Below w.heap.size w w' → w'.rangeAt 1 0 (u32s ks)) := Lib.hid fun w' hb => range_block hk (hb.block _ hk1)
    have CE := Lib.hid (fun w0 h0 => empty_any B mb t 0 i w0 h0 hg (by omega))
    have KD := Lib.hid (node_ok t 0 i)
    have HI : Hid (i < 16) := Lib.hid (by have : i + 1 ≤ 16 := by simpa using hi
                                          omega)
    have HB : Hid (∀ j, j ≤ 4 → ∀ w0, TrAt w0 B mb t → w0.rangeAt B (1 + 32 * j) (u8s (bareD j))) := Lib.hid fun j hj w0 h0 => h0.bdig hj
    have HG := Lib.hid hg
    have HZ : Hid (∀ (h i : Nat), (∀ k, k / 2 ^ h = i → t k = none) → nodeD t h i = bareD h) := Lib.hid fun h i hn => by rw [← bare_node h i]; exact node_congr h i fun j hj => hn j hj
    clear hk hk1 hg h4 hi
    obtain ⟨dd, hdd⟩ : ∃ dd, dd = nodeD t 0 i := ⟨_, rfl⟩
    have HD := Lib.hid hdd
    rw [← hdd] at KD ⊢
    clear hdd
    go_enter Tryd.func36, Tryd.ntmps36
    go_wp2_with (first
      | ((with_reducible refine at_slot 6 ?_); (refine arm_alloc (o := ⟨some 6, _, _, _, _, _⟩) rfl _ rfl (u8s zh) zH ?_); intro R v1 Re hv1 nv1))
    have hbv1 := nv1.below
    have rrv1 : Row v1 R 23 (u8s zh) := hv1
    have geR : w.heap.size ≤ R := by have := Re.out; omega
    clear hv1 nv1 Re
    have T_2 : TrAt v1 B mb (t) := ht.old hbv1
    have bel_2 : Below w.heap.size w v1 := hbv1
    clear ht hbv1
    go_wp2_with fail
    refine (CE.out _ T_2).mono ?_
    rintro e y3 ⟨⟨b, rfl, hb1, hb2⟩, hB⟩
    have T_4 : TrAt y3 B mb (t) := T_2.old hB
    have R_4 : Row y3 R 23 (u8s zh) := rrv1.old hB
    have bel_4 : Below w.heap.size w y3 := below_step bel_2 bel_2.size hB
    clear T_2 rrv1 bel_2 hB
    cases b
    · obtain ⟨j, a, hj, hji⟩ := hb2 rfl
      have hji : j = i := by simpa using hji
      subst hji
      have hga := HG.out j a hj
      have CH : Hid (∀ w0, w0.rangeAt 1 0 (u32s ks) → Calls Tryd.prog 27 #[.agg (acs a).toArray] w0 fun e w' => e = .returned (.tuple #[.agg (u8s dd).toArray, .int .i64 0]) ∧ Below w0.heap.size w0 w') := Lib.hid fun w0 h => (ahash_any a w0 hga.2.1 h).mono fun e w' h => ⟨by
        have h3 := h.ret
        have e1 : ansH a = dd := by rw [HD.out]; unfold ansH nodeD leafD; rw [if_pos hga.2.2, hj]
        have e2 : ansE a = 0 := by unfold ansE; rw [if_pos hga.2.2]
        rw [e1, e2] at h3; exact h3, h.bel⟩
      have HV : Hid ((if false then Value.tuple #[valO (VA za) VA (atI t (j : Int)), .bool (atI t (j : Int)).isSome] else valO (VA za) VA (atI t (j : Int))) = .agg (acs a).toArray) := Lib.hid (by rw [if_neg (by decide), atI_nat, hj]; rfl)
      have HP : Hid (Is64 (j : Int)) := Lib.hid (by have := hga.1; simp [Is64, Lit.wf, IntKind.min, IntKind.max, IntKind.signed, IntKind.bits]; omega)
      have hm := T_4.map
      have hc0 := T_4.c0
      clear hb1 hb2 hga hj
      go_wp2_with (first
        | ((with_reducible refine at_slot 27 ?_); (refine arm_lookupI (o := ⟨some 27, _, _, _, _, _⟩) rfl _ _ _ false rfl rfl (j : Int) rfl hm und_int und_map (VA za) (zero_acc _) HP.out (.agg (acs a).toArray) HV.out ?_)))
      clear hc0 hm
      refine (CH.out _ (HKW.out _ bel_4)).mono ?_
      rintro e y5 ⟨rfl, hB⟩
      have T_6 : TrAt y5 B mb (t) := T_4.old hB
      have R_6 : Row y5 R 23 (u8s zh) := R_4.old hB
      have bel_6 : Below w.heap.size w y5 := below_step bel_4 bel_4.size hB
      clear T_4 R_4 bel_4 hB
      go_wp2_with (first
        | ((with_reducible refine at_slot 7 ?_); (refine arm_alloc (o := ⟨some 7, _, _, _, _, _⟩) rfl _ rfl (u8s zh) zH ?_); intro L v7a Le hLa nL)
        | ((with_reducible refine arm_store (o := ⟨none, _, _, _, _, _⟩) rfl _ _ _ rfl L 0 rfl (u8s dd) rfl _ _ hLa (fitH KD.out) (u8s_one _) (szH KD.out) ?_); intro v7 hLb oL sL)
        | ((with_reducible refine at_slot 31 ?_); (refine arm_load (o := ⟨some 31, _, _, _, _, _⟩) rfl _ _ rfl L 0 rfl (u8s dd) ((Has.refl _).range (hLb.congr (allH KD.out))) (szH KD.out) ?_))
        | ((with_reducible refine arm_store (o := ⟨none, _, _, _, _, _⟩) rfl _ _ _ rfl R 0 rfl (u8s dd) rfl _ _ (((R_6.old nL.below).only oL (by have := Le.out; have := R_6.lt; omega))) (fitH KD.out) (u8s_one _) (szH KD.out) ?_); intro y9 hy9 oy9 sy9))
      have lL : y5.heap.size ≤ L := by have := Le.out; omega
      have bL : Below y5.heap.size y5 v7 := below_only nL.below oL lL nL.below.size
      have rrL : Row v7 L 23 (u8s dd) := hLb.congr (allH KD.out)
      have geL : w.heap.size ≤ L := Nat.le_trans bel_6.size lL
      clear hLa hLb nL oL sL Le lL
      have T_8 : TrAt v7 B mb (t) := T_6.old bL
      have R_8 : Row v7 R 23 (u8s zh) := R_6.old bL
      have bel_8 : Below w.heap.size w v7 := below_step bel_6 bel_6.size bL
      clear T_6 R_6 bel_6 bL
      exact bodyPost_ret (v := .agg (u8s dd).toArray) (result_row (p := 6) (ty := 23) (u := 23) (by kernel_rfl) _ _ R (u8s dd) rfl (hy9.congr (allH KD.out)) (szH KD.out)) rfl ⟨rfl, below_only bel_8 oy9 geR bel_8.size⟩
    · skip
      have hd : dd = bareD 0 := by rw [HD.out, HZ.out 0 i (hb1 rfl)]
      have KB := Lib.hid (bareD_ok 0)
      have hrg := HB.out 0 (by omega) _ T_4
      have HDB := Lib.hid hd
      clear hb1 hb2 hd
      go_wp2_with (first
        | ((with_reducible refine at_slot 17 ?_); (refine arm_want (.pointer (some ⟨B, 1 + 32 * 0, none⟩)) 17 rfl (by kernel_rfl) (run_op_arr _ _ _ rfl 5 23 32 (by kernel_rfl) (by kernel_rfl) B 1 rfl .i64 _ rfl 0 rfl (by omega) (1 + 32 * 0) (by omega) _) ?_))
        | ((with_reducible refine at_slot 18 ?_); (refine arm_load (o := ⟨some 18, _, _, _, _, _⟩) rfl _ _ rfl B (1 + 32 * 0) rfl (u8s (bareD 0)) (hrg) (szH KB.out) ?_))
        | ((with_reducible refine arm_store (o := ⟨none, _, _, _, _, _⟩) rfl _ _ _ rfl R 0 rfl (u8s (bareD 0)) rfl _ _ (R_4) (fitH KB.out) (u8s_one _) (szH KB.out) ?_); intro y9 hy9 oy9 sy9))
      exact bodyPost_ret (v := .agg (u8s (bareD 0)).toArray) (result_row (p := 6) (ty := 23) (u := 23) (by kernel_rfl) _ _ R (u8s (bareD 0)) rfl (hy9.congr (allH KB.out)) (szH KB.out)) rfl ⟨by rw [HDB.out], below_only bel_4 oy9 geR bel_4.size⟩
  | succ h IH =>
    intro i w h4 hi ht hk
    have hk1 : 1 < w.heap.size := range_lt hk (by simp [u32s, ks])
    have HKW : Hid (∀ w', Below w.heap.size w w' → w'.rangeAt 1 0 (u32s ks)) := Lib.hid fun w' hb => range_block hk (hb.block _ hk1)
    have CE := Lib.hid (fun w0 h0 => empty_any B mb t (h + 1) i w0 h0 hg (by omega))
    have KD := Lib.hid (node_ok t (h + 1) i)
    have hi2 : (2 * i + 2) * 2 ^ h ≤ 16 := by rw [Nat.pow_succ] at hi; rw [show (2 * i + 2) * 2 ^ h = (i + 1) * (2 ^ h * 2) by rw [Nat.mul_comm (2 ^ h) 2, ← Nat.mul_assoc]; congr 1; omega]; exact hi
    have hi1 : (2 * i + 1) * 2 ^ h ≤ 16 := Nat.le_trans (Nat.mul_le_mul_right _ (by omega)) hi2
    have hi16 : i < 16 := by have h1 : i + 1 ≤ (i + 1) * 2 ^ (h + 1) := Nat.le_mul_of_pos_right _ (Nat.pow_pos (by omega)); omega
    have CL := Lib.hid (fun w0 h0 h1 => IH (2 * i) w0 (by omega) hi1 h0 h1)
    have CR := Lib.hid (fun w0 h0 h1 => IH (2 * i + 1) w0 (by omega) hi2 h0 h1)
    have CJ := Lib.hid (fun w0 h0 => join_any (h + 1) (nodeD t h (2 * i)) (nodeD t h (2 * i + 1)) w0 (by omega) (node_ok t h _) (node_ok t h _) h0)
    have HB : Hid (∀ j, j ≤ 4 → ∀ w0, TrAt w0 B mb t → w0.rangeAt B (1 + 32 * j) (u8s (bareD j))) := Lib.hid fun j hj w0 h0 => h0.bdig hj
    have HZ : Hid (∀ (h i : Nat), (∀ k, k / 2 ^ h = i → t k = none) → nodeD t h i = bareD h) := Lib.hid fun h i hn => by rw [← bare_node h i]; exact node_congr h i fun j hj => hn j hj
    have h4' : h + 1 ≤ 4 := h4
    clear hk hk1 hg hi hi1 hi2 IH
    rw [show joinD (h + 1) (nodeD t h (2 * i)) (nodeD t h (2 * i + 1)) = nodeD t (h + 1) i from rfl] at CJ
    obtain ⟨dd, hdd⟩ : ∃ dd, dd = nodeD t (h + 1) i := ⟨_, rfl⟩
    have HD := Lib.hid hdd
    rw [← hdd] at KD CJ ⊢
    clear hdd
    generalize nodeD t h (2 * i) = dl at CL CJ
    generalize nodeD t h (2 * i + 1) = dr at CR CJ
    have hw1 : IntKind.i64.wrap (((h + 1 : Nat) : Int) - 1) = (h : Int) := by rw [IntKind.wrap_i64]; omega
    have hw2 : IntKind.i64.wrap (2 * (i : Int)) = ((2 * i : Nat) : Int) := by rw [IntKind.wrap_i64]; omega
    have hw3 : IntKind.i64.wrap (((2 * i : Nat) : Int) + 1) = ((2 * i + 1 : Nat) : Int) := by rw [IntKind.wrap_i64]; omega
    have H1 := Lib.hid hw1; have H2 := Lib.hid hw2; have H3 := Lib.hid hw3
    have HNZ : Hid (((h + 1 : Nat) : Int) ≠ 0) := Lib.hid (by omega)
    obtain ⟨n, hn⟩ : ∃ n, n = h + 1 := ⟨_, rfl⟩
    have HN := Lib.hid hn
    rw [← hn] at H1 CE CJ HNZ HD h4' ⊢
    obtain ⟨i2, hi2⟩ : ∃ i2, i2 = 2 * i := ⟨_, rfl⟩
    rw [← hi2] at H2 H3 CL
    obtain ⟨i3, hi3⟩ : ∃ i3, i3 = 2 * i + 1 := ⟨_, rfl⟩
    rw [show i2 + 1 = i3 by omega] at H3
    rw [← hi3] at CR
    clear hw1 hw2 hw3 hn hi2 hi3 h4
    go_enter Tryd.func36, Tryd.ntmps36
    go_wp2_with (first
      | ((with_reducible refine at_slot 6 ?_); (refine arm_alloc (o := ⟨some 6, _, _, _, _, _⟩) rfl _ rfl (u8s zh) zH ?_); intro R v1 Re hv1 nv1))
    have hbv1 := nv1.below
    have rrv1 : Row v1 R 23 (u8s zh) := hv1
    have geR : w.heap.size ≤ R := by have := Re.out; omega
    clear hv1 nv1 Re
    have T_2 : TrAt v1 B mb (t) := ht.old hbv1
    have bel_2 : Below w.heap.size w v1 := hbv1
    clear ht hbv1
    go_wp2_with fail
    refine (CE.out _ T_2).mono ?_
    rintro e y3 ⟨⟨b, rfl, hb1, hb2⟩, hB⟩
    have T_4 : TrAt y3 B mb (t) := T_2.old hB
    have R_4 : Row y3 R 23 (u8s zh) := rrv1.old hB
    have bel_4 : Below w.heap.size w y3 := below_step bel_2 bel_2.size hB
    clear T_2 rrv1 bel_2 hB
    cases b
    · clear hb1 hb2
      go_wp2_with (first
        | ((with_reducible refine at_slot 20 ?_); (refine arm_want (.bool false) 20 rfl (by kernel_rfl) (cmp_eql _ _ .i64 (by kernel_rfl) _ _ rfl .i64 ((n : Int)) (0) rfl rfl false (decide_eq_false HNZ.out) _) ?_))
        | ((with_reducible refine at_slot 35 ?_); (refine arm_want (.int .i64 (h : Int)) 35 rfl (by kernel_rfl) (run_op_sub64 _ _ _ _ rfl _ _ _ rfl rfl H1.out _) ?_))
        | ((with_reducible refine at_slot 37 ?_); (refine arm_want (.int .i64 (i2 : Int)) 37 rfl (by kernel_rfl) (run_op_mul64 _ _ _ _ rfl _ _ _ rfl rfl H2.out _) ?_)))
      refine (CL.out _ T_4 (HKW.out _ bel_4)).mono ?_
      rintro e y5 ⟨rfl, hB⟩
      have T_6 : TrAt y5 B mb (t) := T_4.old hB
      have R_6 : Row y5 R 23 (u8s zh) := R_4.old hB
      have bel_6 : Below w.heap.size w y5 := below_step bel_4 bel_4.size hB
      clear T_4 R_4 bel_4 hB
      go_wp2_with (first
        | ((with_reducible refine at_slot 41 ?_); (refine arm_want (.int .i64 (h : Int)) 41 rfl (by kernel_rfl) (run_op_sub64 _ _ _ _ rfl _ _ _ rfl rfl H1.out _) ?_))
        | ((with_reducible refine at_slot 43 ?_); (refine arm_want (.int .i64 (i2 : Int)) 43 rfl (by kernel_rfl) (run_op_mul64 _ _ _ _ rfl _ _ _ rfl rfl H2.out _) ?_))
        | ((with_reducible refine at_slot 44 ?_); (refine arm_want (.int .i64 (i3 : Int)) 44 rfl (by kernel_rfl) (run_op_addK _ _ _ _ rfl _ _ _ rfl rfl H3.out _) ?_)))
      refine (CR.out _ T_6 (HKW.out _ bel_6)).mono ?_
      rintro e y7 ⟨rfl, hB⟩
      have T_8 : TrAt y7 B mb (t) := T_6.old hB
      have R_8 : Row y7 R 23 (u8s zh) := R_6.old hB
      have bel_8 : Below w.heap.size w y7 := below_step bel_6 bel_6.size hB
      clear T_6 R_6 bel_6 hB
      go_wp2_with fail
      refine (CJ.out _ (HKW.out _ bel_8)).mono ?_
      rintro e y9 ⟨rfl, hB⟩
      have T_10 : TrAt y9 B mb (t) := T_8.old hB
      have R_10 : Row y9 R 23 (u8s zh) := R_8.old hB
      have bel_10 : Below w.heap.size w y9 := below_step bel_8 bel_8.size hB
      clear T_8 R_8 bel_8 hB
      go_wp2_with (first
        | ((with_reducible refine arm_store (o := ⟨none, _, _, _, _, _⟩) rfl _ _ _ rfl R 0 rfl (u8s dd) rfl _ _ (R_10) (fitH KD.out) (u8s_one _) (szH KD.out) ?_); intro y9 hy9 oy9 sy9))
      exact bodyPost_ret (v := .agg (u8s dd).toArray) (result_row (p := 6) (ty := 23) (u := 23) (by kernel_rfl) _ _ R (u8s dd) rfl (hy9.congr (allH KD.out)) (szH KD.out)) rfl ⟨rfl, below_only bel_10 oy9 geR bel_10.size⟩
    · skip
      have hd : dd = bareD n := by rw [HD.out, HZ.out n i (hb1 rfl)]
      have KB := Lib.hid (bareD_ok n)
      have hrg := HB.out n h4' _ T_4
      have HDB := Lib.hid hd
      clear hb1 hb2 hd
      go_wp2_with (first
        | ((with_reducible refine at_slot 17 ?_); (refine arm_want (.pointer (some ⟨B, 1 + 32 * n, none⟩)) 17 rfl (by kernel_rfl) (run_op_arr _ _ _ rfl 5 23 32 (by kernel_rfl) (by kernel_rfl) B 1 rfl .i64 _ rfl n rfl (by omega) (1 + 32 * n) (by omega) _) ?_))
        | ((with_reducible refine at_slot 18 ?_); (refine arm_load (o := ⟨some 18, _, _, _, _, _⟩) rfl _ _ rfl B (1 + 32 * n) rfl (u8s (bareD n)) (hrg) (szH KB.out) ?_))
        | ((with_reducible refine arm_store (o := ⟨none, _, _, _, _, _⟩) rfl _ _ _ rfl R 0 rfl (u8s (bareD n)) rfl _ _ (R_4) (fitH KB.out) (u8s_one _) (szH KB.out) ?_); intro y9 hy9 oy9 sy9))
      exact bodyPost_ret (v := .agg (u8s (bareD n)).toArray) (result_row (p := 6) (ty := 23) (u := 23) (by kernel_rfl) _ _ R (u8s (bareD n)) rfl (hy9.congr (allH KB.out)) (szH KB.out)) rfl ⟨by rw [HDB.out], below_only bel_4 oy9 geR bel_4.size⟩
end Go.Proofs.YtaihhbiocolhcaaDoor.Tr

/-
  The contracts of package tree's Root and Path. Over this seat's translation.
-/
namespace Go.Proofs.YtaihhbiocolhcaaDoor.Tr
open Go.ChangeShapes Go.WideShapes Go.ChangeAt Go.RowKit Go.Proofs.YtaihhbiocolhcaaDoor.Mem Go.Proofs.YtaihhbiocolhcaaDoor.Bt Go.Proofs.YtaihhbiocolhcaaDoor.Wi Go.Proofs.YtaihhbiocolhcaaDoor.Sha Go.Proofs.YtaihhbiocolhcaaDoor.Ac Go.Proofs.YtaihhbiocolhcaaDoor.Im
open Go.Proofs.YtaihhbiocolhcaaDoor.Tg (bytesOf bytesOf_length bytesOf_lt bytesOf_inj Rd Rd.below Parts parts_one arm_one tagD tagD_len tagOf_any refTag_any total)
open Go.Proofs.YtaihhbiocolhcaaDoor.Ep (H32 zh zh_ok Has h_len szH zH fitH allH came_at)
set_option linter.unusedVariables false
set_option linter.unusedSimpArgs false

/-- A path that is known behind so many rounds. -/
def pl (t : Tree) (p : Nat) : Nat → List (List Nat)
  | 0 => z4
  | k + 1 => (pl t p k).set k (besD t p k)
theorem pl_ok (t : Tree) (p : Nat) : ∀ k, ∀ x ∈ pl t p k, H32 x
  | 0 => z4_ok
  | k + 1 => all_set (pl_ok t p k) (bes_ok t p k) k
theorem pl_len (t : Tree) (p : Nat) : ∀ k, (pl t p k).length = 4
  | 0 => rfl
  | k + 1 => by unfold pl; rw [List.length_set, pl_len t p k]
theorem pl_all (t : Tree) (p : Nat) : pl t p 4 = pathD t p := rfl
theorem path_lay {L : List (List Nat)} (h : ∀ x ∈ L, H32 x) {d : List Nat} (kd : H32 d) {i : Nat} (hi : i < L.length) : lay (dgC L) (32 * i) (u8s d) = dgC (L.set i d) := by
  have := dg_lay L [] i d h kd hi
  simpa using this
theorem path_has {L : List (List Nat)} (h : ∀ x ∈ L, H32 x) {d : List Nat} {i : Nat} (hi : L[i]? = some d) : Has (dgC L) (32 * i) (u8s d) := by
  have := dg_has L [] i d h hi
  simpa using this
structure PathPost (w : World) (t : Tree) (p : Int) (e : Ending) (w' : World) : Prop where
  ret : e = .returned (.tuple #[.agg (dgC (pathI t p)).toArray, .int .i64 (pathE p : Int)])
  bel : Below w.heap.size w w'
theorem tree_ne_path {w : World} {B mb : Nat} {t : Tree} {L : List (List Nat)} {ty : TypeId} (h : TrAt w B mb t) (g : Row w B ty (dgC L)) : False := by
  have e := h.row.inj g
  have h0 : (tcs mb b5)[0]? = some (.map (some mb)) := rfl
  rw [e] at h0
  have hm := List.mem_of_getElem? h0
  unfold dgC at hm
  obtain ⟨x, _, hx⟩ := List.mem_flatMap.1 hm
  obtain ⟨m, hm⟩ := Ep.u8s_int x _ hx
  cases hm
set_option maxHeartbeats 4000000 in
set_option maxRecDepth 100000 in
theorem root_any (B mb : Nat) (t : Tree) (w : World) (ht : TrAt w B mb t) (hg : Good t) (hk : w.rangeAt 1 0 (u32s ks)) :
    Calls Tryd.prog 20 #[.pointer (some ⟨B, 0, none⟩)] w fun e w' => e = .returned (.agg (u8s (rootD t)).toArray) ∧ Below w.heap.size w w' := by
  have hk1 : 1 < w.heap.size := range_lt hk (by simp [u32s, ks])
  have HKW : Hid (∀ w', Below w.heap.size w w' → w'.rangeAt 1 0 (u32s ks)) := Lib.hid fun w' hb => range_block hk (hb.block _ hk1)
  have CN : Hid (∀ w0, TrAt w0 B mb t → w0.rangeAt 1 0 (u32s ks) → Calls Tryd.prog 36 #[.pointer (some ⟨B, 0, none⟩), .int .i64 4, .int .i64 0] w0 fun e w' => e = .returned (.agg (u8s (rootD t)).toArray) ∧ Below w0.heap.size w0 w') := Lib.hid fun w0 h0 h1 => node_any B mb t hg 4 0 w0 (by omega) (by decide) h0 h1
  have KD := Lib.hid (root_ok t)
  clear hk hk1 hg
  generalize rootD t = dd at CN KD ⊢
  go_enter Tryd.func20, Tryd.ntmps20
  go_wp2_with (first
    | ((with_reducible refine at_slot 2 ?_); (refine arm_alloc (o := ⟨some 2, _, _, _, _, _⟩) rfl _ rfl (u8s zh) zH ?_); intro R v1 Re hv1 nv1))
  have hbv1 := nv1.below
  have rrv1 : Row v1 R 23 (u8s zh) := hv1
  have geR : w.heap.size ≤ R := by have := Re.out; omega
  clear hv1 nv1 Re
  have T_2 : TrAt v1 B mb t := ht.old hbv1
  have bel_2 : Below w.heap.size w v1 := hbv1
  clear ht hbv1
  go_wp2_with fail
  refine (CN.out _ T_2 (HKW.out _ bel_2)).mono ?_
  rintro e y3 ⟨rfl, hB⟩
  have T_4 : TrAt y3 B mb t := T_2.old hB
  have R_4 : Row y3 R 23 (u8s zh) := rrv1.old hB
  have bel_4 : Below w.heap.size w y3 := below_step bel_2 bel_2.size hB
  clear T_2 rrv1 bel_2 hB
  go_wp2_with (first
    | ((with_reducible refine arm_store (o := ⟨none, _, _, _, _, _⟩) rfl _ _ _ rfl R 0 rfl (u8s dd) rfl _ _ (R_4) (fitH KD.out) (u8s_one _) (szH KD.out) ?_); intro y9 hy9 oy9 sy9))
  exact bodyPost_ret (v := .agg (u8s dd).toArray) (result_row (p := 2) (ty := 23) (u := 23) (by kernel_rfl) _ _ R (u8s dd) rfl (hy9.congr (allH KD.out)) (szH KD.out)) rfl ⟨rfl, below_only bel_4 oy9 geR bel_4.size⟩
structure PaRel (w : World) (B mb P Z : Nat) (t : Tree) (p : Nat) (i : Value) (wr : World) : Prop where
  ex : ∃ k : Nat, k ≤ 4 ∧ i = .int .i64 (k : Int) ∧ Row wr P 29 (dgC (pl t p k))
  rz : Row wr Z 29 (dgC z4)
  tr : TrAt wr B mb t
  bel : Below w.heap.size w wr
set_option maxHeartbeats 4000000 in
set_option maxRecDepth 100000 in
theorem path_any (B mb : Nat) (t : Tree) (p : Int) (w : World) (ht : TrAt w B mb t) (hg : Good t) (hk : w.rangeAt 1 0 (u32s ks)) :
    Calls Tryd.prog 22 #[.pointer (some ⟨B, 0, none⟩), .int .i64 p] w (PathPost w t p) := by
  have hk1 : 1 < w.heap.size := range_lt hk (by simp [u32s, ks])
  have HKW : Hid (∀ w', Below w.heap.size w w' → w'.rangeAt 1 0 (u32s ks)) := Lib.hid fun w' hb => range_block hk (hb.block _ hk1)
  have CT := Lib.hid (fun w0 => there_any p w0)
  have KZ := Lib.hid (sz_path z4_ok rfl)
  have FZ := Lib.hid (fitP z4_ok rfl)
  have BZ := Lib.hid built_path
  by_cases hin : 0 ≤ p ∧ p < 16
  · rw [decide_eq_true hin] at CT
    obtain ⟨q, hq⟩ : ∃ q : Nat, p = (q : Int) := ⟨p.toNat, by omega⟩
    subst hq
    have hq16 : q < 16 := by omega
    have HI : Hid (pathI t (q : Int) = pathD t q) := Lib.hid (by unfold pathI; rw [if_pos hin, Int.toNat_natCast])
    have HE : Hid (pathE (q : Int) = 0) := Lib.hid (by unfold pathE; rw [if_pos hin])
    have CN : Hid (∀ (k : Nat) w0, k < 4 → TrAt w0 B mb t → w0.rangeAt 1 0 (u32s ks) → Calls Tryd.prog 36 #[.pointer (some ⟨B, 0, none⟩), .int .i64 (k : Int), .int .i64 ((sib (q / 2 ^ k)) : Int)] w0 fun e w' => e = .returned (.agg (u8s (besD t q k)).toArray) ∧ Below w0.heap.size w0 w') := Lib.hid fun k w0 hk4 h0 h1 => node_any B mb t hg k (sib (q / 2 ^ k)) w0 (by omega) (path_fit hq16 hk4) h0 h1
    have HQ := Lib.hid hq16
    clear hk hk1 hg hin hq16
    go_enter Tryd.func22, Tryd.ntmps22
    go_wp2_with (first
      | ((with_reducible refine at_slot 4 ?_); (refine arm_alloc (o := ⟨some 4, _, _, _, _, _⟩) rfl _ rfl (dgC z4) z_path ?_); intro Z v1 Ze hv1 nv1))
    have hbv1 := nv1.below
    have rrv1 : Row v1 Z 29 (dgC z4) := hv1
    have geZ : w.heap.size ≤ Z := by have := Ze.out; omega
    clear hv1 nv1 Ze
    have T_2 : TrAt v1 B mb (t) := ht.old hbv1
    have bel_2 : Below w.heap.size w v1 := hbv1
    clear ht hbv1
    go_wp2_with fail
    refine (CT.out _).mono ?_
    rintro e z3 ⟨rfl, rfl⟩
    go_wp2_with (first
      | ((with_reducible refine at_slot 6 ?_); (refine arm_alloc (o := ⟨some 6, _, _, _, _, _⟩) rfl _ rfl (dgC z4) z_path ?_); intro P v4 Pe hv4 nv4))
    have hbv4 := nv4.below
    have rrv4 : Row v4 P 29 (dgC z4) := hv4
    have hZP0 : Z ≠ P := by have := Pe.out; have := rrv1.lt; omega
    have geP : w.heap.size ≤ P := by have := Pe.out; have := bel_2.size; omega
    clear hv4 nv4 Pe
    have T_5 : TrAt v4 B mb (t) := T_2.old hbv4
    have Z_5 : Row v4 Z 29 (dgC z4) := rrv1.old hbv4
    have bel_5 : Below w.heap.size w v4 := below_step bel_2 bel_2.size hbv4
    clear T_2 rrv1 bel_2 hbv4
    go_wp2_with fail
    try simp only [Act.put]
    have hZP : Z ≠ P := hZP0
    have h0 : PaRel w B mb P Z t q (.int .i64 0) v4 := ⟨⟨0, by omega, rfl, rrv4⟩, Z_5, T_5, bel_5⟩
    clear rrv4 T_5 Z_5 bel_5 CT
    go_loopw [12] (fun i wr => PaRel w B mb P Z t q i wr) (fun i _ => 4 - (intOf i).toNat)
    case atStart => exact h0
    case round =>
      clear h0
      obtain ⟨⟨k, hk, rfl, hrow⟩, hz, htr, bel⟩ := hrel
      by_cases hlt : k < 4
      · have ik : (k : Int) < 4 := by omega
        have hx16 : q / 2 ^ k < 16 := Nat.lt_of_le_of_lt (Nat.div_le_self _ _) HQ.out
        have HX16 := Lib.hid hx16
        have CN := Lib.hid (fun w0 => CN.out k w0 hlt)
        have KD := Lib.hid (bes_ok t q k)
        have HQL : Hid (q ≤ 9223372036854775807) := Lib.hid (by have := HQ.out; omega)
        have HK64 : Hid (k < 64) := Lib.hid (by omega)
        have HLY : Hid (lay (dgC (pl t q k)) (k * 32) (u8s (besD t q k)) = dgC (pl t q (k + 1))) := Lib.hid (by rw [Nat.mul_comm k 32]; exact path_lay (pl_ok t q k) (bes_ok t q k) (by rw [pl_len]; omega))
        have HFT : Hid (k * 32 + (u8s (besD t q k)).length ≤ (dgC (pl t q k)).length) := Lib.hid (by rw [dg4 (pl_ok t q k) (pl_len t q k), h_len (bes_ok t q k)]; omega)
        have HLT := Lib.hid hlt
        generalize besD t q k = dd at CN KD HLY HFT
        clear hx16
        go_wp2_with (first
          | ((with_reducible refine at_slot 20 ?_); (refine arm_want (.int .i64 ((q / 2 ^ k : Nat) : Int)) 20 rfl (by kernel_rfl) (run_op_shrI _ _ _ _ rfl q k rfl rfl HQL.out HK64.out _) ?_))
          | ((with_reducible refine at_slot 21 ?_); (refine arm_want (.int .i64 ((sib (q / 2 ^ k)) : Int)) 21 rfl (by kernel_rfl) (run_op_xorI _ _ _ _ rfl (q / 2 ^ k) rfl rfl HX16.out _) ?_)))
        refine (CN.out _ htr (HKW.out _ bel)).mono ?_
        rintro e y101 ⟨rfl, hB⟩
        have P_102 : Row y101 P 29 (dgC (pl t q k)) := hrow.old hB
        have Z_102 : Row y101 Z 29 (dgC z4) := hz.old hB
        have T_102 : TrAt y101 B mb (t) := htr.old hB
        have bel_102 : Below w.heap.size w y101 := below_step bel bel.size hB
        clear hrow hz htr bel hB
        have hTP : B ≠ P := fun e => by subst e; exact tree_ne_path T_102 P_102
        have hMP : mb ≠ P := T_102.map.row P_102
        go_wp2_with (first
          | ((with_reducible refine arm_store (o := ⟨none, _, _, _, _, _⟩) rfl _ _ _ rfl P (k * 32) rfl (u8s dd) rfl _ _ (P_102) HFT.out (u8s_one _) (szH KD.out) ?_); intro y9 hy9 oy9 sy9))
        try simp only [Act.put]
        go_roundw
        case rel => exact ⟨⟨k + 1, by omega, by go_num, hy9.congr HLY.out⟩, Z_102.only oy9 hZP, T_102.only oy9 hTP hMP, below_only bel_102 oy9 geP bel_102.size⟩
        case measure => simp [intOf]; omega
      · obtain rfl : k = 4 := by omega
        have hrow4 : Row wr P 29 (dgC (pathD t q)) := hrow
        have KP := Lib.hid (sz_path (path_ok t q) rfl)
        have KF := Lib.hid (fitP (path_ok t q) rfl)
        have KA := Lib.hid (allP (path_ok t q) rfl)
        clear hrow
        generalize pathD t q = dp at hrow4 KP KF KA HI
        go_wp2_with (first
          | ((with_reducible refine at_slot 25 ?_); (refine arm_load (o := ⟨some 25, _, _, _, _, _⟩) rfl _ _ rfl P 0 rfl (dgC dp) ((Has.refl _).range hrow4) KP.out ?_))
          | ((with_reducible refine arm_store (o := ⟨none, _, _, _, _, _⟩) rfl _ _ _ rfl Z 0 rfl (dgC dp) rfl _ _ (hz) KF.out (dgC_ones _) KP.out ?_); intro y9 hy9 oy9 sy9))
        exact bodyPost_ret (result_row2 (p := 4) (u := 5) (ty := 29) (t := 29) (by kernel_rfl) _ _ Z (dgC dp) (.int .i64 0) rfl rfl (hy9.congr KA.out) KP.out) rfl ⟨by rw [HI.out, HE.out]; rfl, below_only bel oy9 geZ bel.size⟩
  · rw [decide_eq_false hin] at CT
    have HI : Hid (pathI t p = z4) := Lib.hid (by unfold pathI; rw [if_neg hin])
    have HE : Hid (pathE p = 1) := Lib.hid (by unfold pathE; rw [if_neg hin])
    have KA := Lib.hid (allP z4_ok rfl)
    clear hk hk1 hg hin ht
    go_enter Tryd.func22, Tryd.ntmps22
    go_wp2_with (first
      | ((with_reducible refine at_slot 4 ?_); (refine arm_alloc (o := ⟨some 4, _, _, _, _, _⟩) rfl _ rfl (dgC z4) z_path ?_); intro Z v1 Ze hv1 nv1))
    have hbv1 := nv1.below
    have rrv1 : Row v1 Z 29 (dgC z4) := hv1
    have geZ : w.heap.size ≤ Z := by have := Ze.out; omega
    clear hv1 nv1 Ze
    have bel_2 : Below w.heap.size w v1 := hbv1
    clear hbv1
    go_wp2_with fail
    refine (CT.out _).mono ?_
    rintro e z3 ⟨rfl, rfl⟩
    go_wp2_with (first
      | ((with_reducible refine at_slot 11 ?_); (refine arm_build (o := ⟨some 11, _, _, _, _, _⟩) rfl _ _ rfl (dgC z4) (by simp only [List.map_toArray, List.map_nil]; exact BZ.out) ?_))
      | ((with_reducible refine arm_store (o := ⟨none, _, _, _, _, _⟩) rfl _ _ _ rfl Z 0 rfl (dgC z4) rfl _ _ (rrv1) FZ.out (dgC_ones _) KZ.out ?_); intro y9 hy9 oy9 sy9))
    exact bodyPost_ret (result_row2 (p := 4) (u := 5) (ty := 29) (t := 29) (by kernel_rfl) _ _ Z (dgC z4) (.int .i64 1) rfl rfl (hy9.congr KA.out) KZ.out) rfl ⟨by rw [HI.out, HE.out]; rfl, below_only bel_2 oy9 geZ bel_2.size⟩
end Go.Proofs.YtaihhbiocolhcaaDoor.Tr
