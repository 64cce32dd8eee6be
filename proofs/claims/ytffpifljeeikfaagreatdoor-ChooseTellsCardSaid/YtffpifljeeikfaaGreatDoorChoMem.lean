/-
  Two states beside each other, and what they are held with (package choose's relation and contest), as cells: what stands where, what a write leaves, how they are written out. Over this seat's translation.
-/
import Derived.Test.YtffpifljeeikfaaGreatDoorChoSpec
import Derived.Test.YtffpifljeeikfaaGreatDoorGroAll
import Derived.Test.YtffpifljeeikfaaGreatDoorLnkSpec
namespace Go.Proofs.YtffpifljeeikfaaGreatDoor.Cz
open Go.ChangeShapes Go.WideShapes Go.ChangeAt Go.RowKit Go.Proofs.YtffpifljeeikfaaGreatDoor.Mem Go.Proofs.YtffpifljeeikfaaGreatDoor.Bt Go.Proofs.YtffpifljeeikfaaGreatDoor.Sa
open Go.Proofs.YtffpifljeeikfaaGreatDoor.Ep (H32 zh zh_ok num32 Has h_len one_app one_num szH)
set_option linter.unusedVariables false
set_option linter.unusedSimpArgs false

theorem has_trans {cs vs us : List Value} {o p : Nat} (h : Has cs o vs) (g : Has vs p us) : Has cs (o + p) us := by
  obtain ⟨a, b, rfl, rfl⟩ := h.ex
  obtain ⟨c, d, rfl, rfl⟩ := g.ex
  exact ⟨a ++ c, d ++ b, by simp only [List.append_assoc], List.length_append⟩
def rl (a b : Sta) : List Value := scs a ++ scs b
def cl (a b : Sta) (n : Nat) : List Value := rl a b ++ [.int .i64 (n : Int)]
section
variable {a b c : Sta}
theorem rl_len (ka : a.Ok) (kb : b.Ok) : (rl a b).length = 726 := by unfold rl; rw [List.length_append, scs_len ka, scs_len kb]
theorem cl_len (ka : a.Ok) (kb : b.Ok) (n : Nat) : (cl a b n).length = 727 := by unfold cl; rw [List.length_append, rl_len ka kb]; rfl
theorem rl_one (a b : Sta) : OneCells (rl a b) := one_app (scs_one _) (scs_one _)
theorem cl_one (a b : Sta) (n : Nat) : OneCells (cl a b n) := one_app (rl_one _ _) (fun v hv => by rw [List.mem_singleton.1 hv]; rfl)
theorem z_rel : Mem.Zero Tryz.prog 67 (rl zs zs) := by unfold Mem.Zero; kernel_rfl
theorem z_con : Mem.Zero Tryz.prog 71 (cl zs zs 0) := by unfold Mem.Zero; kernel_rfl
theorem sz_rel (ka : a.Ok) (kb : b.Ok) : Sized Tryz.prog 67 (rl a b).length := by rw [rl_len ka kb]; exact ⟨.struct (Tryz.prog.fieldsOf 67), by kernel_rfl, rfl, by kernel_rfl⟩
theorem sz_con (ka : a.Ok) (kb : b.Ok) (n : Nat) : Sized Tryz.prog 71 (cl a b n).length := by rw [cl_len ka kb]; exact ⟨.struct (Tryz.prog.fieldsOf 71), by kernel_rfl, rfl, by kernel_rfl⟩
/-! ### What stands where. -/
theorem s_slot (k : a.Ok) : Has (scs a) 96 [num32 a.slot] := h_slt k
theorem s_nlock (k : a.Ok) : Has (scs a) 201 (u8s a.now.lock) := s_hash k (i := 15) (by omega) rfl
theorem s_xlock (k : a.Ok) : Has (scs a) 330 (u8s a.next.lock) := s_hash k (i := 20) (by omega) rfl
theorem r_one (a b : Sta) : Has (rl a b) 0 (scs a) := (Has.refl (rl a b)).left
theorem r_other (ka : a.Ok) : Has (rl a b) 363 (scs b) := by have := (Has.refl (rl a b)).right 363 (scs_len ka); exact this
theorem c_rel (a b : Sta) (n : Nat) : Has (cl a b n) 0 (rl a b) := (Has.refl (cl a b n)).left
theorem c_one (a b : Sta) (n : Nat) : Has (cl a b n) 0 (scs a) := has_trans (c_rel a b n) (r_one a b)
theorem c_other (ka : a.Ok) (n : Nat) : Has (cl a b n) 363 (scs b) := by have := has_trans (c_rel a b n) (r_other (b := b) ka); rwa [Nat.zero_add] at this
theorem c_turns (ka : a.Ok) (kb : b.Ok) (n : Nat) : Has (cl a b n) 726 [.int .i64 (n : Int)] := by have := (Has.refl (cl a b n)).right 726 (rl_len ka kb); exact this
/-! ### What a write leaves. -/
theorem fitR (ka : a.Ok) (kb : b.Ok) : 0 + (rl a b).length ≤ (rl zs zs).length := by rw [rl_len ka kb, rl_len zs_ok zs_ok]; omega
theorem allR (ka : a.Ok) (kb : b.Ok) : lay (rl zs zs) 0 (rl a b) = rl a b := lay_all _ _ (by rw [rl_len ka kb, rl_len zs_ok zs_ok])
theorem fitC (ka : a.Ok) (kb : b.Ok) (n : Nat) : 0 + (cl a b n).length ≤ (cl zs zs 0).length := by rw [cl_len ka kb, cl_len zs_ok zs_ok]; omega
theorem allC (ka : a.Ok) (kb : b.Ok) (n : Nat) : lay (cl zs zs 0) 0 (cl a b n) = cl a b n := lay_all _ _ (by rw [cl_len ka kb, cl_len zs_ok zs_ok])
theorem lay_rone (ka : a.Ok) (kc : c.Ok) : lay (rl a b) 0 (scs c) = rl c b := lay_head _ _ _ (by rw [scs_len ka, scs_len kc])
theorem lay_rother (ka : a.Ok) (kb : b.Ok) (kc : c.Ok) : lay (rl a b) 363 (scs c) = rl a c := by
  unfold rl
  rw [show (363 : Nat) = 363 + 0 from rfl, lay_skip _ _ _ 0 (scs_len ka), lay_all _ _ (by rw [scs_len kb, scs_len kc])]
theorem lay_cone (ka : a.Ok) (kc : c.Ok) (n : Nat) : lay (cl a b n) 0 (scs c) = cl c b n := by
  unfold cl rl
  rw [List.append_assoc, lay_head _ _ _ (by rw [scs_len ka, scs_len kc]), List.append_assoc]
theorem lay_cother (ka : a.Ok) (kb : b.Ok) (kc : c.Ok) (n : Nat) : lay (cl a b n) 363 (scs c) = cl a c n := by
  unfold cl rl
  rw [List.append_assoc, show (363 : Nat) = 363 + 0 from rfl, lay_skip _ _ _ 0 (scs_len ka), lay_head _ _ _ (by rw [scs_len kb, scs_len kc]), List.append_assoc]
theorem set_turns (ka : a.Ok) (kb : b.Ok) (n m : Nat) : (cl a b n).set 726 (.int .i64 (m : Int)) = cl a b m := by
  unfold cl
  rw [List.set_append_right _ _ (by rw [rl_len ka kb]; exact Nat.le_refl _), rl_len ka kb]
  rfl
/-! ### Written out. -/
def rplaces : Nat → Option (Nat × Nat) := fun i => (#[(0, 363), (363, 363)] : Array (Nat × Nat))[i]?
def cplaces : Nat → Option (Nat × Nat) := fun i => (#[(0, 726), (726, 1)] : Array (Nat × Nat))[i]?
theorem shape_rel (parts : List (Nat × Value)) : Tryz.prog.built 67 parts = Instr.fill rplaces (rl zs zs).toArray parts := by unfold rplaces; kernel_rfl
theorem shape_con (parts : List (Nat × Value)) : Tryz.prog.built 71 parts = Instr.fill cplaces (cl zs zs 0).toArray parts := by unfold cplaces; kernel_rfl
theorem built_rel (ka : a.Ok) (kb : b.Ok) : Tryz.prog.built 67 [(0, .agg (scs a).toArray), (1, .agg (scs b).toArray)] = some (rl a b).toArray := by
  rw [shape_rel, fill_step rplaces (rl zs zs) 0 0 363 _ (scs a) _ rfl rfl (scs_len ka) (by rw [rl_len zs_ok zs_ok]; omega), lay_rone zs_ok ka,
    fill_step rplaces (rl a zs) 1 363 363 _ (scs b) _ rfl rfl (scs_len kb) (by rw [rl_len ka zs_ok]; omega), lay_rother ka zs_ok kb, fill_done]
theorem built_rel1 (ka : a.Ok) : Tryz.prog.built 67 [(0, .agg (scs a).toArray)] = some (rl a zs).toArray := by
  rw [shape_rel, fill_step rplaces (rl zs zs) 0 0 363 _ (scs a) _ rfl rfl (scs_len ka) (by rw [rl_len zs_ok zs_ok]; omega), lay_rone zs_ok ka, fill_done]
theorem built_con (ka : a.Ok) (kb : b.Ok) : Tryz.prog.built 71 [(0, .agg (rl a b).toArray)] = some (cl a b 0).toArray := by
  rw [shape_con, fill_step cplaces (cl zs zs 0) 0 0 726 _ (rl a b) _ rfl rfl (rl_len ka kb) (by rw [cl_len zs_ok zs_ok]; omega), fill_done]
  unfold cl
  rw [lay_head _ _ _ (by rw [rl_len ka kb, rl_len zs_ok zs_ok])]
end
section
variable {o : Oper} {a : Act}
set_option maxRecDepth 100000 in
/-- '==' of two digests. -/
theorem run_op_eqlD {x y : List Nat} (k : H32 x) (j : H32 y) (p q : Operand) (t' : TypeId) (ho : o.op = .binOp .eql 23 p q t') (hy : a.eval p = .agg (u8s x).toArray) (hz : a.eval q = .agg (u8s y).toArray) (b : Bool) (hb : b = true ↔ x = y) (w : World) : (execOp a.eval o).run Tryz.prog w = .ok (.value (.bool b)) w :=
  run_op_eqlF 23 p q t' ho 2 (by omega) (.array 32 5) (by kernel_rfl) rfl (by kernel_rfl) (u8s x) (u8s y) hy hz (Ep.fit_hash 0 k) (Ep.fit_hash 0 j) b (hb.trans ⟨congrArg u8s, Od.u8s_same⟩) w
theorem run_op_sub32 {P : Program} (t t' : TypeId) (x y : Operand) (ho : o.op = .binOp .sub t x y t') (m n r : Int) (hx : a.eval x = .int .u32 m) (hy : a.eval y = .int .u32 n) (hr : IntKind.u32.wrap (m - n) = r) (w : World) :
    (execOp a.eval o).run P w = .ok (.value (.int .u32 r)) w := by
  subst hr
  unfold execOp
  simp [ho, hx, hy, eqGuard, binOp, Op.intArith]
theorem run_op_add32 {P : Program} (t t' : TypeId) (x y : Operand) (ho : o.op = .binOp .add t x y t') (m n r : Int) (hx : a.eval x = .int .u32 m) (hy : a.eval y = .int .u32 n) (hr : IntKind.u32.wrap (m + n) = r) (w : World) :
    (execOp a.eval o).run P w = .ok (.value (.int .u32 r)) w := by
  subst hr
  unfold execOp
  simp [ho, hx, hy, eqGuard, binOp, Op.intArith]
/-- '==' and '!=' of two truths. -/
theorem run_eqlB (p q : Bool) (w : World) : (binOp .eql 4 (.bool p) (.bool q)).run Tryz.prog w = .ok (.bool (p == q)) w := by cases p <;> cases q <;> kernel_rfl
theorem run_neqB (p q : Bool) (w : World) : (binOp .neq 4 (.bool p) (.bool q)).run Tryz.prog w = .ok (.bool (!(p == q))) w := by cases p <;> cases q <;> kernel_rfl
theorem run_op_eqlBB (x y : Operand) (t' : TypeId) (ho : o.op = .binOp .eql 4 x y t') (p q : Bool) (hx : a.eval x = .bool p) (hy : a.eval y = .bool q) (r : Bool) (hr : (p == q) = r) (w : World) : (execOp a.eval o).run Tryz.prog w = .ok (.value (.bool r)) w := by
  subst hr
  unfold execOp
  simp [ho, hx, hy, eqGuard, run_eqlB]
theorem run_op_neqBB (x y : Operand) (t' : TypeId) (ho : o.op = .binOp .neq 4 x y t') (p q : Bool) (hx : a.eval x = .bool p) (hy : a.eval y = .bool q) (r : Bool) (hr : (!(p == q)) = r) (w : World) : (execOp a.eval o).run Tryz.prog w = .ok (.value (.bool r)) w := by
  subst hr
  unfold execOp
  simp [ho, hx, hy, eqGuard, run_neqB]
end
end Go.Proofs.YtffpifljeeikfaaGreatDoor.Cz
