/-
  Digests as keys of maps that change. Over this seat's translation.
-/
import Derived.Test.YtnjmocobncncdaaDoorShaAll
import Derived.Test.YtnjmocobncncdaaDoorKeyMap
namespace Go.Proofs.YtnjmocobncncdaaDoor.Km
open Go.RowKit Go.Proofs.YtnjmocobncncdaaDoor.Mem Go.Proofs.YtnjmocobncncdaaDoor.Bt Go.Proofs.YtnjmocobncncdaaDoor.Sha
set_option linter.unusedVariables false
set_option linter.unusedSimpArgs false

def hashV (h : List Nat) : Value := .agg (u8s h).toArray
def hashOk (h : List Nat) : Prop := h.length = 32
theorem checkB (em : Bool) (n : Nat) (v : Value) (w : World) : (Instr.checkKey em (n + 1) 5 v).run Tryd.prog w = .ok () w := by
  have hu : Tryd.prog.underlying 5 = some (.int .u8) := by kernel_rfl
  unfold Instr.checkKey
  simp [run_underlying hu]
theorem checkH (em : Bool) (n : Nat) (xs : List Nat) (hx : xs.length = 32) (w : World) : (Instr.checkKey em (n + 2) 29 (.agg (u8s xs).toArray)).run Tryd.prog w = .ok () w := by
  have hu : Tryd.prog.underlying 29 = some (.array 32 5) := by kernel_rfl
  have hs : (sizeOf 5).run Tryd.prog w = .ok 1 w := by kernel_rfl
  unfold Instr.checkKey
  simp only [Sem.run_bind, run_underlying hu, Result.andThen_ok]
  have key : ∀ l : List Nat, (∀ i ∈ l, i < 32) → (forIn (m := Sem) l PUnit.unit fun i __s => do
      let s ← sizeOf 5
      let a ← part 5 (u8s xs).toArray (i * s)
      Instr.checkKey em (n + 1) 5 a
      pure (ForInStep.yield PUnit.unit)).run Tryd.prog w = .ok PUnit.unit w := by
    intro l
    induction l with
    | nil => intro _; simp
    | cons i l ih =>
      intro h
      rw [List.forIn_cons]
      simp only [Sem.run_bind, hs, Result.andThen_ok, Nat.mul_one, part_u8s xs i (by have := h i (by simp); omega) w, checkB, Sem.run_pure]
      exact ih (fun j hj => h j (by simp [hj]))
  rw [Std.Legacy.Range.forIn_eq_forIn_range']
  rw [key _ (fun i hi => by simp [Std.Legacy.Range.size] at hi; omega)]
  rfl
theorem hashV_inj (x y : List Nat) (h : hashV x = hashV y) : x = y := by
  unfold hashV at h
  have h1 : u8s x = u8s y := by
    have := Value.agg.inj h
    simpa using congrArg Array.toList this
  unfold u8s at h1
  refine (List.map_inj_right (fun a b e => ?_)).1 h1
  have := (Value.int.inj e).2
  omega
theorem hash_keys : Keys Tryd.prog 29 hashV hashOk :=
  ⟨⟨fun x hx em w => checkH em 9998 x hx w, fun x y hx hy w => eq_hash2 9998 29 (by kernel_rfl) x y hx hy w, ⟨_, (by kernel_rfl : Tryd.prog.underlying 29 = some (.array 32 5)), fun v v' => by cases v <;> cases v' <;> rfl⟩⟩, fun x hx w => stays_bytes Tryd.prog x w, hashV_inj⟩
end Go.Proofs.YtnjmocobncncdaaDoor.Km
