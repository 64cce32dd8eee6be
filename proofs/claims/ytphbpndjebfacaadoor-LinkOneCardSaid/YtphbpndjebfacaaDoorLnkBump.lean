/-
  A state of which one thing is another one: its cells are the state's, but one; it has the same block. Over this seat's translation.
-/
import Derived.Test.YtphbpndjebfacaaDoorLnkSpec
namespace Go.Proofs.YtphbpndjebfacaaDoor.Lk
open Go.ChangeShapes Go.WideShapes Go.ChangeAt Go.RowKit Go.Proofs.YtphbpndjebfacaaDoor.Mem Go.Proofs.YtphbpndjebfacaaDoor.Bt Go.Proofs.YtphbpndjebfacaaDoor.Rg Go.Proofs.YtphbpndjebfacaaDoor.Wn Go.Proofs.YtphbpndjebfacaaDoor.Sa Go.Proofs.YtphbpndjebfacaaDoor.Sha Go.Proofs.YtphbpndjebfacaaDoor.Gr Go.Proofs.YtphbpndjebfacaaDoor.Sl
open Go.Proofs.YtphbpndjebfacaaDoor.Ep (H32 Dat Blk zh zh_ok num32 zd zd_ok Has h_len one_app one_num szH zH fitH allH)
set_option linter.unusedVariables false
set_option linter.unusedSimpArgs false

theorem cP_congr {c d : Sta} : ∀ n, (∀ i, i < n → fC d i = fC c i) → cP d n = cP c n
  | 0, _ => rfl
  | n + 1, h => by rw [cP, cP, cP_congr n (fun i hi => h i (by omega)), h n (by omega)]
theorem dC_congr {c d : Sta} {n : Nat} (h : ∀ i, n ≤ i → i < 22 → fC d i = fC c i) : dC d n = dC c n := by
  unfold dC
  rw [List.flatMap_def, List.flatMap_def, List.map_congr_left]
  intro i hi
  have := List.mem_range'_1.1 hi
  exact h i this.1 (by omega)
theorem set_field {c d : Sta} (k : c.Ok) (j : d.Ok) {f : Nat} (hf : f < 22) (h : ∀ i, i < 22 → i ≠ f → fC d i = fC c i) {m : Nat} {v : Value} (e : fC d f = (fC c f).set m v) (hm : m < (fC c f).length) : scs d = (scs c).set (off f + m) v := by
  have hl := cP_len k f
  rw [scs_cd j f (by omega), dC_step hf, scs_cd k f (by omega), dC_step hf, cP_congr f (fun i hi => h i (by omega) (by omega)), dC_congr (fun i hi hi2 => h i hi2 (by omega)), e, List.set_append_right _ _ (by rw [hl]; omega), hl, Nat.add_sub_cancel_left, List.set_append_left _ _ hm]
/-- One cell is a number, and 1 more in another state that is the same in all else. -/
structure Bump (c : Sta) (i : Nat) (k : IntKind) (M : Int) : Prop where
  ex : ∃ (x : Nat) (d : Sta), (scs c)[i]? = some (.int k (x : Int)) ∧ d.Ok ∧ scs d = (scs c).set i (.int k (((x : Int) + 1) % M)) ∧ gbOf d = gbOf c ∧ d ≠ c
theorem bump_ne {c d : Sta} {i x : Nat} {k : IntKind} {M : Int} (hM : 1 < M) (hx : (x : Int) < M) (hc : (scs c)[i]? = some (.int k (x : Int))) (e : scs d = (scs c).set i (.int k (((x : Int) + 1) % M))) : d ≠ c := by
  rintro rfl
  have hl := (List.getElem?_eq_some_iff.1 hc).1
  have h1 : (scs d)[i]? = some (.int k (((x : Int) + 1) % M)) := by
    have h2 : ((scs d).set i (.int k (((x : Int) + 1) % M)))[i]? = some (.int k (((x : Int) + 1) % M)) := List.getElem?_set_self hl
    rw [← e] at h2
    exact h2
  rw [hc] at h1
  have h3 : (x : Int) = ((x : Int) + 1) % M := (Value.int.inj (Option.some.inj h1)).2
  by_cases h4 : (x : Int) + 1 < M
  · rw [Int.emod_eq_of_lt (by omega) h4] at h3; omega
  · have h5 : (x : Int) + 1 = M := by omega
    rw [h5, Int.emod_self] at h3
    omega
theorem bump_num {c d : Sta} (k : c.Ok) (j : d.Ok) {f : Nat} (hf : f < 22) (hh : isH f = false) (h : ∀ i, i < 22 → i ≠ f → fC d i = fC c i) (hlt : nF c f < 4294967296) (hn : nF d f = (nF c f + 1) % 4294967296) (hg : gbOf d = gbOf c) : Bump c (off f) .u32 4294967296 := by
  have hc : (scs c)[off f]? = some (.int .u32 (nF c f : Int)) := (s_num k hf hh).get
  have e : scs d = (scs c).set (off f) (.int .u32 (((nF c f : Int) + 1) % 4294967296)) := by
    refine set_field (m := 0) k j hf h ?_ (by rw [fC_n hh]; exact Nat.zero_lt_one)
    rw [fC_n hh, fC_n hh, List.set_cons_zero, hn]
    congr 2
  exact ⟨_, d, hc, j, e, hg, bump_ne (by decide) (by omega) hc e⟩
theorem bump_hash {c d : Sta} (k : c.Ok) (j : d.Ok) {f : Nat} (hf : f < 22) (hh : isH f = true) (h : ∀ i, i < 22 → i ≠ f → fC d i = fC c i) {m x : Nat} (hm : (hF c f)[m]? = some x) (hn : hF d f = (hF c f).set m ((x + 1) % 256)) (hg : gbOf d = gbOf c) : Bump c (off f + m) .u8 256 := by
  have hlm := (List.getElem?_eq_some_iff.1 hm).1
  have hx : x < 256 := (hF_ok k f).lt x (List.mem_of_getElem? hm)
  have hl := cP_len k f
  have hlen : (fC c f).length = (hF c f).length := by rw [fC_h hh, u8s_length]
  have hc : (scs c)[off f + m]? = some (.int .u8 (x : Int)) := by
    rw [scs_cd k f (by omega), dC_step hf, List.getElem?_append_right (by omega), hl, Nat.add_sub_cancel_left, List.getElem?_append_left (by omega), fC_h hh]
    unfold u8s
    rw [List.getElem?_map, hm]
    rfl
  have e : scs d = (scs c).set (off f + m) (.int .u8 (((x : Int) + 1) % 256)) := by
    refine set_field k j hf h ?_ (by omega)
    rw [fC_h hh, fC_h hh, hn]
    unfold u8s
    rw [List.map_set]
    congr 2
  exact ⟨_, d, hc, j, e, hg, bump_ne (by decide) (by omega) hc e⟩
theorem h32_set {x : List Nat} (k : H32 x) (m y : Nat) (hy : y < 256) : H32 (x.set m y) := ⟨by rw [List.length_set]; exact k.len, fun z hz => by
  rcases List.mem_or_eq_of_mem_set hz with hz | rfl
  · exact k.lt z hz
  · exact hy⟩
theorem byte_at {x : List Nat} (k : H32 x) {m : Nat} (hm : m < 32) : ∃ y, x[m]? = some y := ⟨_, List.getElem?_eq_getElem (by rw [k.len]; exact hm)⟩
section
variable {c : Sta} (k : c.Ok)
include k
theorem bump_prev : Bump c 0 .u8 256 := by
  obtain ⟨x, hx⟩ := byte_at k.prev (m := 0) (by omega)
  refine bump_hash (d := { c with prev := c.prev.set 0 ((x + 1) % 256) }) (f := 0) (m := 0) k ⟨h32_set k.prev _ _ (by omega), k.led, k.draw, k.slot, k.len, k.count, k.min, k.last, k.counts, k.clt, k.now, k.next⟩ (by omega) rfl (fun i hi hn => ?_) hx rfl rfl
  rcases cases22 hi with rfl | rfl | rfl | rfl | rfl | rfl | rfl | rfl | rfl | rfl | rfl | rfl | rfl | rfl | rfl | rfl | rfl | rfl | rfl | rfl | rfl | rfl <;> first | (exact absurd rfl hn) | rfl
theorem bump_len : Bump c 97 .u32 4294967296 := by
  refine bump_num (d := { c with len := (c.len + 1) % 4294967296 }) (f := 4) k ⟨k.prev, k.led, k.draw, k.slot, (by show (c.len + 1) % 4294967296 < 4294967296; omega), k.count, k.min, k.last, k.counts, k.clt, k.now, k.next⟩ (by omega) rfl (fun i hi hn => ?_) k.len rfl rfl
  rcases cases22 hi with rfl | rfl | rfl | rfl | rfl | rfl | rfl | rfl | rfl | rfl | rfl | rfl | rfl | rfl | rfl | rfl | rfl | rfl | rfl | rfl | rfl | rfl <;> first | (exact absurd rfl hn) | rfl
theorem bump_count : Bump c 98 .u32 4294967296 := by
  refine bump_num (d := { c with count := (c.count + 1) % 4294967296 }) (f := 5) k ⟨k.prev, k.led, k.draw, k.slot, k.len, (by show (c.count + 1) % 4294967296 < 4294967296; omega), k.min, k.last, k.counts, k.clt, k.now, k.next⟩ (by omega) rfl (fun i hi hn => ?_) k.count rfl rfl
  rcases cases22 hi with rfl | rfl | rfl | rfl | rfl | rfl | rfl | rfl | rfl | rfl | rfl | rfl | rfl | rfl | rfl | rfl | rfl | rfl | rfl | rfl | rfl | rfl <;> first | (exact absurd rfl hn) | rfl
theorem bump_min : Bump c 99 .u32 4294967296 := by
  refine bump_num (d := { c with min := (c.min + 1) % 4294967296 }) (f := 6) k ⟨k.prev, k.led, k.draw, k.slot, k.len, k.count, (by show (c.min + 1) % 4294967296 < 4294967296; omega), k.last, k.counts, k.clt, k.now, k.next⟩ (by omega) rfl (fun i hi hn => ?_) k.min rfl rfl
  rcases cases22 hi with rfl | rfl | rfl | rfl | rfl | rfl | rfl | rfl | rfl | rfl | rfl | rfl | rfl | rfl | rfl | rfl | rfl | rfl | rfl | rfl | rfl | rfl <;> first | (exact absurd rfl hn) | rfl
theorem bump_last : Bump c 100 .u32 4294967296 := by
  refine bump_num (d := { c with last := (c.last + 1) % 4294967296 }) (f := 7) k ⟨k.prev, k.led, k.draw, k.slot, k.len, k.count, k.min, (by show (c.last + 1) % 4294967296 < 4294967296; omega), k.counts, k.clt, k.now, k.next⟩ (by omega) rfl (fun i hi hn => ?_) k.last rfl rfl
  rcases cases22 hi with rfl | rfl | rfl | rfl | rfl | rfl | rfl | rfl | rfl | rfl | rfl | rfl | rfl | rfl | rfl | rfl | rfl | rfl | rfl | rfl | rfl | rfl <;> first | (exact absurd rfl hn) | rfl
theorem bump_counts : Bump c 101 .u32 4294967296 := by
  obtain ⟨a, b, e, g, hc⟩ := four k.counts
  have ha : c.counts.getD 0 0 < 4294967296 := by rw [hc]; exact k.clt a (by rw [hc]; simp)
  have h1 : ∀ n, (c.counts.set 0 n).getD 1 0 = c.counts.getD 1 0 := fun n => by rw [hc]; rfl
  have h2 : ∀ n, (c.counts.set 0 n).getD 2 0 = c.counts.getD 2 0 := fun n => by rw [hc]; rfl
  have h3 : ∀ n, (c.counts.set 0 n).getD 3 0 = c.counts.getD 3 0 := fun n => by rw [hc]; rfl
  have h0 : ∀ n, (c.counts.set 0 n).getD 0 0 = n := fun n => by rw [hc]; rfl
  refine bump_num (d := { c with counts := c.counts.set 0 ((c.counts.getD 0 0 + 1) % 4294967296) }) (f := 8) k ⟨k.prev, k.led, k.draw, k.slot, k.len, k.count, k.min, k.last, (by show (c.counts.set 0 _).length = 4; rw [List.length_set]; exact k.counts), (fun z hz => by
    rcases List.mem_or_eq_of_mem_set hz with hz | rfl
    · exact k.clt z hz
    · omega), k.now, k.next⟩ (by omega) rfl (fun i hi hn => ?_) ha (h0 _) rfl
  rcases cases22 hi with rfl | rfl | rfl | rfl | rfl | rfl | rfl | rfl | rfl | rfl | rfl | rfl | rfl | rfl | rfl | rfl | rfl | rfl | rfl | rfl | rfl | rfl <;> first | (exact absurd rfl hn) | rfl | (exact congrArg (fun n => [num32 n]) (h1 _)) | (exact congrArg (fun n => [num32 n]) (h2 _)) | (exact congrArg (fun n => [num32 n]) (h3 _))
theorem bump_seed : Bump c 140 .u8 256 := by
  obtain ⟨x, hx⟩ := byte_at k.now.seed (m := 3) (by omega)
  refine bump_hash (d := { c with now := { c.now with seed := c.now.seed.set 3 ((x + 1) % 256) } }) (f := 13) (m := 3) k ⟨k.prev, k.led, k.draw, k.slot, k.len, k.count, k.min, k.last, k.counts, k.clt, ⟨k.now.led, h32_set k.now.seed _ _ (by omega), k.now.start, k.now.lock, k.now.len⟩, k.next⟩ (by omega) rfl (fun i hi hn => ?_) hx rfl rfl
  rcases cases22 hi with rfl | rfl | rfl | rfl | rfl | rfl | rfl | rfl | rfl | rfl | rfl | rfl | rfl | rfl | rfl | rfl | rfl | rfl | rfl | rfl | rfl | rfl <;> first | (exact absurd rfl hn) | rfl
theorem bump_lock : Bump c 361 .u8 256 := by
  obtain ⟨x, hx⟩ := byte_at k.next.lock (m := 31) (by omega)
  refine bump_hash (d := { c with next := { c.next with lock := c.next.lock.set 31 ((x + 1) % 256) } }) (f := 20) (m := 31) k ⟨k.prev, k.led, k.draw, k.slot, k.len, k.count, k.min, k.last, k.counts, k.clt, k.now, ⟨k.next.led, k.next.seed, k.next.start, h32_set k.next.lock _ _ (by omega), k.next.len⟩⟩ (by omega) rfl (fun i hi hn => ?_) hx rfl rfl
  rcases cases22 hi with rfl | rfl | rfl | rfl | rfl | rfl | rfl | rfl | rfl | rfl | rfl | rfl | rfl | rfl | rfl | rfl | rfl | rfl | rfl | rfl | rfl | rfl <;> first | (exact absurd rfl hn) | rfl
theorem bump_nlen : Bump c 362 .u32 4294967296 := by
  refine bump_num (d := { c with next := { c.next with len := (c.next.len + 1) % 4294967296 } }) (f := 21) k ⟨k.prev, k.led, k.draw, k.slot, k.len, k.count, k.min, k.last, k.counts, k.clt, k.now, ⟨k.next.led, k.next.seed, k.next.start, k.next.lock, (by show (c.next.len + 1) % 4294967296 < 4294967296; omega)⟩⟩ (by omega) rfl (fun i hi hn => ?_) k.next.len rfl rfl
  rcases cases22 hi with rfl | rfl | rfl | rfl | rfl | rfl | rfl | rfl | rfl | rfl | rfl | rfl | rfl | rfl | rfl | rfl | rfl | rfl | rfl | rfl | rfl | rfl <;> first | (exact absurd rfl hn) | rfl
end
section
variable {P : Program} {o : Oper} {a : Act}
theorem run_op_addK (t t' : TypeId) (x y : Operand) (ho : o.op = .binOp .add t x y t') (k : IntKind) (m n r : Int) (hx : a.eval x = .int k m) (hy : a.eval y = .int k n) (hr : k.wrap (m + n) = r) (w : World) :
    (execOp a.eval o).run P w = .ok (.value (.int k r)) w := by
  subst hr
  unfold execOp
  simp [ho, hx, hy, eqGuard, binOp, Op.intArith]
theorem run_op_remK (t t' : TypeId) (x y : Operand) (ho : o.op = .binOp .rem t x y t') (k : IntKind) (m n r : Int) (hx : a.eval x = .int k m) (hy : a.eval y = .int k n) (hn : n ≠ 0) (hr : m.tmod n = r) (w : World) :
    (execOp a.eval o).run P w = .ok (.value (.int k r)) w := by
  subst hr
  unfold execOp
  simp [ho, hx, hy, hn, eqGuard, binOp, Op.intArith, Op.intDiv]
end
end Go.Proofs.YtphbpndjebfacaaDoor.Lk
