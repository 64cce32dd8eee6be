/-
  A region that draws its order, whose last operation waits for all others: what is kept throughout it (S) need not hold behind the last one. Over whatever program.
-/
import Derived.Test.YtnjmocobncncdaaGreatDoorMemAll
import Derived.OrdersHeld
namespace Go.Proofs.YtnjmocobncncdaaGreatDoor.Mem
open Go.RowKit
set_option linter.unusedVariables false
set_option linter.unusedSimpArgs false

section
variable {P : Program} {ops : Array Oper} {Q : Exit → Act → World → Prop} {md : Region.Mode} {S : World → Prop} {a : Act} {w : World}
/-- Where all others have come up the last one does. -/
def lastQ (P : Program) (ops : Array Oper) (Q : Exit → Act → World → Prop) (z : Nat) : Exit → Act → World → Prop
  | .normal => fun a w => wpOp P ops Q z (fun a' w' => Q .normal a' w') a w
  | e => Q e
theorem last_normal {z : Nat} (h : wpOp P ops Q z (fun a' w' => Q .normal a' w') a w) : lastQ P ops Q z .normal a w := h
theorem upon_q {Q' : Exit → Act → World → Prop} (hp : ∀ c a w, Q' (.panic c) a w → Q (.panic c) a w) (hl : LetsOut Q' → LetsOut Q) {o : Oper} {K : Act → World → Prop} (h : o.wp P a w K Q') : o.wp P a w K Q := by
  unfold Oper.wp at *
  generalize (execOp a.eval o).run P w = r at *
  cases r with
  | ok n w' =>
    cases n <;> simp only [Oper.upon] at h ⊢
    case value u => exact h
    case skip => exact h
    case defer d => exact h
    case enter f args =>
      refine Calls.mono h fun e w'' he => ?_
      cases e with
      | returned u => exact he
      | panicked c => exact hp _ _ _ he
      | outgrown => exact hl he
    case row row args => exact h
  | halt x w' =>
    cases x <;> simp only [Oper.upon] at h ⊢
    case panic u => exact hp _ _ _ h
theorem wpOp_q {Q' : Exit → Act → World → Prop} (hp : ∀ c a w, Q' (.panic c) a w → Q (.panic c) a w) (hl : LetsOut Q' → LetsOut Q) {i : Nat} {K : Act → World → Prop} (h : wpOp P ops Q' i K a w) : wpOp P ops Q i K a w := by
  unfold wpOp at *
  split
  · rename_i hn; simp only [hn] at h; exact h
  · rename_i o ho
    simp only [ho] at h
    split
    · rename_i hw
      simp only [hw, if_true] at h
      exact h.imp (upon_q hp hl) (fun q => ⟨q.1, hl q.2⟩)
    · rename_i hw; simpa [hw] using h
/-- Each operation waits for earlier ones alone, none for z; each but z is waited for. -/
def chkZ (md : Region.Mode) (ops : Array Oper) (z : Nat) : Bool :=
  decide (z < ops.size) && ((List.range ops.size).all fun j => ((ops[j]?).map fun o => o.after.all fun e => !Region.binds md e || (decide (e.on < j) && decide (e.on ≠ z))).getD false) &&
    ((List.range ops.size).all fun j => decide (j = z) || (List.range ops.size).any fun k => ((ops[k]?).map fun o => o.after.any fun e => Region.binds md e && decide (e.on = j)).getD false)
structure ChkZ (md : Region.Mode) (ops : Array Oper) (z : Nat) : Prop where
  lt : z < ops.size
  back : ∀ j o, ops[j]? = some o → ∀ e ∈ o.after, Region.binds md e = true → e.on < j ∧ e.on ≠ z
  all : ∀ j, j < ops.size → j ≠ z → ∃ (k : Nat) (o : Oper), ops[k]? = some o ∧ ∃ e ∈ o.after, Region.binds md e = true ∧ e.on = j
theorem chkZ_spec {z : Nat} (h : chkZ md ops z = true) : ChkZ md ops z := by
  unfold chkZ at h
  rw [Bool.and_eq_true, Bool.and_eq_true, List.all_eq_true, List.all_eq_true] at h
  obtain ⟨⟨h1, h2⟩, h3⟩ := h
  refine ⟨of_decide_eq_true h1, fun j o ho e he hb => ?_, fun j hj hne => ?_⟩
  · have hj : j < ops.size := (Array.getElem?_eq_some_iff.1 ho).1
    have := h2 j (List.mem_range.2 hj)
    rw [ho, Option.map_some, Option.getD_some, Array.all_eq_true_iff_forall_mem] at this
    have := this e he
    simp only [hb, Bool.not_true, Bool.false_or, Bool.and_eq_true, decide_eq_true_eq] at this
    exact this
  · have := h3 j (List.mem_range.2 hj)
    rw [decide_eq_false hne, Bool.false_or, List.any_eq_true] at this
    obtain ⟨k, hk, h4⟩ := this
    have hk' := List.mem_range.1 hk
    rw [Array.getElem?_eq_getElem hk', Option.map_some, Option.getD_some] at h4
    obtain ⟨i, hi, hb⟩ := Array.any_eq_true.1 h4
    rw [Bool.and_eq_true, decide_eq_true_eq] at hb
    exact ⟨k, ops[k], Array.getElem?_eq_getElem hk', (ops[k]).after[i], Array.getElem_mem hi, hb⟩
/-- What has come up has what it waits for. -/
def Shut (md : Region.Mode) (ops : Array Oper) (listed : Array Bool) : Prop := ∀ k o, ops[k]? = some o → listed.getD k false = true → ∀ e ∈ o.after, Region.binds md e = true → listed.getD e.on false = true
theorem shut_set {listed : Array Bool} (h : Shut md ops listed) {i : Nat} (hi : i ∈ Region.ready md ops listed) : Shut md ops (listed.setIfInBounds i true) := fun k o ho hl e he hb => by
  refine getD_set_true ?_
  by_cases hk : i = k
  · subst hk
    obtain ⟨_, o', ho', h2⟩ := mem_ready.1 hi
    rw [ho] at ho'
    cases ho'
    exact h2 e he hb
  · rw [getD_set_ne false hk] at hl
    exact h k o ho hl e he hb
/-- Where z may come up all others have. -/
theorem all_behind {z : Nat} (c : ChkZ md ops z) {listed : Array Bool} (hsh : Shut md ops listed) (hz : z ∈ Region.ready md ops listed) : ∀ n j, j < ops.size → ops.size - j ≤ n → j ≠ z → listed.getD j false = true := by
  intro n
  induction n with
  | zero => intro j hj hn; omega
  | succ n ih =>
    intro j hj hn hne
    obtain ⟨k, o, ho, e, he, hb, rfl⟩ := c.all j hj hne
    obtain ⟨h1, _⟩ := c.back k o ho e he hb
    have hk : k < ops.size := (Array.getElem?_eq_some_iff.1 ho).1
    by_cases hkz : k = z
    · subst hkz
      obtain ⟨_, o', ho', h2⟩ := mem_ready.1 hz
      rw [ho] at ho'
      cases ho'
      exact h2 e he hb
    · exact hsh k o ho (ih k hk (by omega) hkz) e he hb
/-- Where none but z is left. -/
theorem all_listed {z : Nat} (c : ChkZ md ops z) {listed : Array Bool} (hs : listed.size = ops.size) (hr : Region.ready md ops (listed.setIfInBounds z true) = []) : ∀ j, j < ops.size → j ≠ z → listed.getD j true = true := by
  intro j
  induction j using Nat.strongRecOn with
  | ind j ih =>
    intro hj hne
    cases hl : listed.getD j true with
    | true => rfl
    | false =>
      exfalso
      have hm : j ∈ Region.ready md ops (listed.setIfInBounds z true) := by
        refine mem_ready.2 ⟨by rw [getD_set_ne true (Ne.symm hne)]; exact hl, ops[j], Array.getElem?_eq_getElem hj, fun e he hb => ?_⟩
        obtain ⟨h1, h2⟩ := c.back j _ (Array.getElem?_eq_getElem hj) e he hb
        rw [getD_set_ne false (Ne.symm h2)]
        have := ih e.on h1 (by omega) h2
        have hlt : e.on < listed.size := by omega
        rw [Array.getD_eq_getD_getElem?, Array.getElem?_eq_getElem hlt] at this ⊢
        exact this
      rw [hr] at hm
      cases hm
theorem any_of_last {z : Nat} (c : ChkZ md ops z) : ∀ (fuel : Nat) (listed : Array Bool) (a : Act) (w : World), listed.size = ops.size → listed.getD z true = false → Shut md ops listed →
    wpAnyH P md ops (lastQ P ops Q z) S fuel (listed.setIfInBounds z true) a w → wpAny P md ops Q (fuel + 1) listed a w := by
  intro fuel
  induction fuel with
  | zero =>
    intro listed a w hs hz hsh H
    have hall := all_listed c hs H.1
    have hrz : z ∈ Region.ready md ops listed := by
      refine mem_ready.2 ⟨hz, ops[z]'c.lt, Array.getElem?_eq_getElem c.lt, fun e he hb => ?_⟩
      obtain ⟨h1, h2⟩ := c.back z _ (Array.getElem?_eq_getElem c.lt) e he hb
      have := hall e.on (by have := c.lt; omega) h2
      have hlt : e.on < listed.size := by have := c.lt; omega
      rw [Array.getD_eq_getD_getElem?, Array.getElem?_eq_getElem hlt] at this ⊢
      exact this
    refine ⟨fun h => (by rw [h] at hrz; cases hrz), fun i hi => ?_⟩
    by_cases hiz : i = z
    · subst hiz
      exact wpOp_mono (fun a' w' h => wpAny_done H.1 h 0) H.2
    · have := ready_mono hi hiz
      rw [H.1] at this
      cases this
  | succ fuel ih =>
    intro listed a w hs hz hsh H
    refine ⟨fun h => ?_, fun i hi => ?_⟩
    · -- all are listed but z, which is ready: none else
      exfalso
      have hr : Region.ready md ops (listed.setIfInBounds z true) = [] := by
        rw [List.eq_nil_iff_forall_not_mem]
        intro j hj
        obtain ⟨h1, o, ho, h2⟩ := mem_ready.1 hj
        have hjz : j ≠ z := fun e => by
          subst e
          rw [Array.getD_eq_getD_getElem?, Array.getElem?_setIfInBounds_self_of_lt (by rw [hs]; exact c.lt)] at h1
          cases h1
        have : j ∈ Region.ready md ops listed := mem_ready.2 ⟨by rw [getD_set_ne true (Ne.symm hjz)] at h1; exact h1, o, ho, fun e he hb => by
          have := h2 e he hb
          rw [getD_set_ne false (Ne.symm (c.back j o ho e he hb).2)] at this
          exact this⟩
        rw [h] at this
        cases this
      have hall := all_listed c hs hr
      have hrz : z ∈ Region.ready md ops listed := by
        refine mem_ready.2 ⟨hz, ops[z]'c.lt, Array.getElem?_eq_getElem c.lt, fun e he hb => ?_⟩
        obtain ⟨h1, h2⟩ := c.back z _ (Array.getElem?_eq_getElem c.lt) e he hb
        have := hall e.on (by have := c.lt; omega) h2
        have hlt : e.on < listed.size := by have := c.lt; omega
        rw [Array.getD_eq_getD_getElem?, Array.getElem?_eq_getElem hlt] at this ⊢
        exact this
      rw [h] at hrz
      cases hrz
    · by_cases hiz : i = z
      · subst hiz
        have hr : Region.ready md ops (listed.setIfInBounds i true) = [] := by
          rw [List.eq_nil_iff_forall_not_mem]
          intro j hj
          obtain ⟨h1, o', ho', _⟩ := mem_ready.1 hj
          have hjl : j < ops.size := (Array.getElem?_eq_some_iff.1 ho').1
          by_cases hji : j = i
          · subst hji
            rw [Array.getD_eq_getD_getElem?, Array.getElem?_setIfInBounds_self_of_lt (by rw [hs]; exact c.lt)] at h1
            cases h1
          · have := all_behind c hsh hi ops.size j hjl (by omega) hji
            rw [getD_set_ne true (Ne.symm hji)] at h1
            have hlt : j < listed.size := by omega
            rw [Array.getD_eq_getD_getElem?, Array.getElem?_eq_getElem hlt] at this h1
            simp only [Option.getD_some] at this h1
            rw [this] at h1
            cases h1
        exact wpOp_mono (fun a' w' h => wpAny_done hr h _) (H.1 hr)
      · have h1 := H.2 i (ready_mono hi hiz)
        refine wpOp_mono (fun a' w' h3 => ?_) (wpOp_q (Q' := lastQ P ops Q z) (Q := Q) (fun _ _ _ h => h) (fun h => h) h1)
        refine ih _ a' w' (by simp [hs]) (by rw [getD_set_ne true hiz]; exact hz) (shut_set hsh hi) ?_
        rw [Array.setIfInBounds_comm _ _ hiz]
        exact h3.2
/-- The beginning: z is the last one; at the end it is to be carried out, behind which S is not asked for. -/
theorem wp_region_last {id : Nat} (z n : Nat) (hn : ops.size = n + 1) (hm : P.follows .mixedOrders = true) (hc : chkZ .any ops z = true)
    (h : wpAnyH P .any ops (lastQ P ops Q z) S n ((Array.replicate ops.size false).setIfInBounds z true) a { w with drawn := w.drawn + 1 }) : (Code.region id ops true).wp P Q a w :=
  wp_region_any hm (by
    rw [show ops.size = n + 1 from hn]
    rw [show ops.size = n + 1 from hn] at h
    have c := chkZ_spec hc
    refine any_of_last c n _ a _ (by simp [hn]) ?_ (fun k o ho hl => ?_) h
    rotate_left
    · rw [Array.getD_eq_getD_getElem?, Array.getElem?_replicate] at hl
      split at hl <;> cases hl
    have := c.lt
    rw [Array.getD_eq_getD_getElem?, Array.getElem?_replicate, if_pos (by omega)]
    rfl)
end
end Go.Proofs.YtnjmocobncncdaaGreatDoor.Mem
