/-
  The contracts of bytes.Compare and of package order's Hashes, Compare (several orders put into one, by method expressions) and Of. Over this seat's translation.
-/
import Derived.Test.YtffdmfclakgocaaDoorOrdMem
import Derived.Test.YtffdmfclakgocaaDoorStaDo
import Derived.Lib.Bytealg
import Derived.Lib.BytesEntry
import Derived.Laws.Externs
namespace Go.Proofs.YtffdmfclakgocaaDoor.Od
open Go.ChangeShapes Go.WideShapes Go.ChangeAt Go.RowKit Go.Proofs.YtffdmfclakgocaaDoor.Mem Go.Proofs.YtffdmfclakgocaaDoor.Bt Go.Proofs.YtffdmfclakgocaaDoor.Sl
open Go.Proofs.YtffdmfclakgocaaDoor.Ep (H32 zh zh_ok num32 Has h_len one_app one_num szH zH fitH allH)
open Go.Proofs.YtffdmfclakgocaaDoor.Sha (ks)
open Go.Proofs.YtffdmfclakgocaaDoor.Sa (Sta scs digS digS_ok sz_sta sz_rsta h_drw h_lngth)
set_option linter.unusedVariables false
set_option linter.unusedSimpArgs false

/-! ### The model's own comparison of bytes. -/
def ints (x : List Nat) : List Int := x.map fun n : Nat => (n : Int)
theorem byte_lt {m n : Nat} (hm : m < 256) (hn : n < 256) : UInt8.ofNat m < UInt8.ofNat n ↔ m < n := by
  rw [UInt8.lt_iff_toNat_lt, UInt8.toNat_ofNat', UInt8.toNat_ofNat', Nat.mod_eq_of_lt hm, Nat.mod_eq_of_lt hn]
theorem cmp_bytes : ∀ x y : List Nat, AllLt 256 x → AllLt 256 y → x.length = y.length → Go.Lib.compareBytes (Go.Lib.bytesOf (ints x)) (Go.Lib.bytesOf (ints y)) = cmpN (val x) (val y)
  | [], [], _, _, _ => rfl
  | [], b :: y, _, _, h => by simp at h
  | a :: x, [], _, _, h => by simp at h
  | a :: x, b :: y, hx, hy, h => by
    have hl : x.length = y.length := by simpa using h
    have kx : AllLt 256 x := fun z hz => hx z (by simp [hz])
    have ky : AllLt 256 y := fun z hz => hy z (by simp [hz])
    have ih := cmp_bytes x y kx ky hl
    have ha := hx a (by simp)
    have hb := hy b (by simp)
    have e : Go.Lib.compareBytes (Go.Lib.bytesOf (ints (a :: x))) (Go.Lib.bytesOf (ints (b :: y))) = if UInt8.ofNat a < UInt8.ofNat b then -1 else if UInt8.ofNat b < UInt8.ofNat a then 1 else Go.Lib.compareBytes (Go.Lib.bytesOf (ints x)) (Go.Lib.bytesOf (ints y)) := rfl
    rw [e, ih]
    rcases Nat.lt_trichotomy a b with h1 | rfl | h1
    · rw [if_pos ((byte_lt ha hb).2 h1), cmpN_lt]
      have := val_first (p := []) hl kx h1
      simpa using this
    · rw [if_neg (fun q => by have := (byte_lt ha ha).1 q; omega), if_neg (fun q => by have := (byte_lt ha ha).1 q; omega)]
      unfold cmpN
      rw [val, val, hl]
      simp only [Nat.add_lt_add_iff_left]
    · rw [if_neg (fun q => by have := (byte_lt ha hb).1 q; omega), if_pos ((byte_lt hb ha).2 h1), cmpN_gt]
      have := val_first (p := []) hl.symm ky h1
      simpa using this
theorem run_compare {P : Program} {x y : List Nat} (k : H32 x) (j : H32 y) (b o b' o' c d : Nat) (w : World) (hx : w.rangeAt b o (u8s x)) (hy : w.rangeAt b' o' (u8s y)) :
    (Extern.BytealgCompare.compare #[.slice (some ⟨b, o, none⟩) 32 c, .slice (some ⟨b', o', none⟩) 32 d]).run P w = .ok (.int .i64 (cmpN (val x) (val y))) w := by
  have ld : ∀ {x : List Nat} {b o : Nat}, H32 x → w.rangeAt b o (u8s x) → (Extern.Bytes.loadBytes ⟨b, o, none⟩ 32 .empty).run P w = .ok ⟨(Go.Lib.bytesOf (ints x)).toArray⟩ w := fun {x b o} k h => by
    have hl := Go.Lib.run_loadBytesX (P := P) w (ints x) ⟨b, o, none⟩ .empty (fun i n hi => by
      obtain ⟨m, hm, rfl⟩ : ∃ m : Nat, x[i]? = some m ∧ (m : Int) = n := by simpa [ints] using hi
      have e : (⟨b, o, none⟩ : Addr).add i = ⟨b, o + i, none⟩ := by unfold Addr.add; split <;> simp_all
      rw [e]
      exact h i (.int .u8 (m : Int)) (by simp [u8s, hm]))
    rw [show (ints x).length = 32 by simp [ints, k.len]] at hl
    rw [hl]
    congr 1
    apply ByteArray.ext
    show (#[] : Array UInt8) ++ _ = _
    simp
  change Sem.run P (do pure (goInt (Extern.BytealgCompare.cmp (← Extern.Bytes.bytesOf (.slice (some ⟨b, o, none⟩) 32 c)) (← Extern.Bytes.bytesOf (.slice (some ⟨b', o', none⟩) 32 d))))) w = _
  simp only [Extern.Bytes.bytesOf, Sem.run_bind, Sem.run_pure, ld k hx, ld j hy, Result.andThen]
  rw [Go.Lib.cmp_eq]
  show Result.ok (goInt (Go.Lib.compareBytes (Go.Lib.bytesOf (ints x)) (Go.Lib.bytesOf (ints y)))) w = _
  rw [cmp_bytes x y k.lt j.lt (k.len.trans j.len.symm)]
  rfl
/-- The function that the model stands in for. -/
theorem ext_facts : (Tryd.prog.funcs[31]?).map (fun fn => ((fn.name == "runtime.NumGoroutine"), fn.body.isNone, (Extern.findNext fn).isNone)) = some (false, true, true) := by kernel_rfl
theorem ext_find : (Tryd.prog.funcs[31]?).bind Extern.find = some Extern.BytealgCompare.compare := by kernel_rfl
theorem ext_run (args : Array Value) (w : World) : (callFunc 31 args).run Tryd.prog w = ((Extern.BytealgCompare.compare args).run Tryd.prog w).andThen fun v w' => .ok (.value v) w' := by
  cases h : Tryd.prog.funcs[31]? with
  | none => have := ext_facts; rw [h] at this; cases this
  | some fn =>
    have h1 := ext_facts
    have h2 := ext_find
    rw [h] at h1 h2
    simp only [Option.map_some, Option.some.injEq, Prod.mk.injEq] at h1
    exact run_callFunc_extern h h1.1 h1.2.1 (Option.isNone_iff_eq_none.1 h1.2.2) h2 args w
set_option maxHeartbeats 4000000 in
set_option maxRecDepth 100000 in
theorem bcmp_any (x y : List Nat) (k : H32 x) (j : H32 y) (b o b' o' : Nat) (w : World) (hx : w.rangeAt b o (u8s x)) (hy : w.rangeAt b' o' (u8s y)) :
    Calls Tryd.prog 23 #[.slice (some ⟨b, o, none⟩) 32 32, .slice (some ⟨b', o', none⟩) 32 32] w fun e w' => e = .returned (.int .i64 (cmpN (val x) (val y))) ∧ w = w' := by
  have HR := Lib.hid (run_compare (P := Tryd.prog) k j b o b' o' 32 32 w hx hy)
  generalize cmpN (val x) (val y) = z at HR ⊢
  clear hx hy k j
  go_enter Tryd.func23, Tryd.ntmps23
  go_wp2
  rw [ext_run, HR.out]
  simp only [Result.andThen]
  rw [Oper.upon_value]
  go_wp2
  go_ret
  exact ⟨rfl, rfl⟩
set_option maxHeartbeats 4000000 in
set_option maxRecDepth 100000 in
theorem hashes_any (x y : List Nat) (w : World) (k : H32 x) (j : H32 y) :
    Calls Tryd.prog 12 #[.agg (u8s x).toArray, .agg (u8s y).toArray] w fun e w' => e = .returned (.int .i64 (cmpN (val x) (val y))) ∧ Below w.heap.size w w' := by
  have CB := Lib.hid (fun b o b' o' w0 hx hy => bcmp_any x y k j b o b' o' w0 hx hy)
  generalize cmpN (val x) (val y) = z at CB ⊢
  clear k j
  go_enter Tryd.func12, Tryd.ntmps12
  go_wp2_with (first
    | ((with_reducible refine at_slot 2 ?_); (refine arm_box (o := ⟨some 2, _, _, _, _, _⟩) rfl _ _ rfl (u8s x) rfl ?_); intro A v1 Ae hv1 nv1)
    | ((with_reducible refine at_slot 3 ?_); (refine arm_box (o := ⟨some 3, _, _, _, _, _⟩) rfl _ _ rfl (u8s y) rfl ?_); intro B v2 Be hv2 nv2))
  have q0 := Ae.out
  have q1 := nv1.size
  have q2 := Be.out
  have q3 := nv2.size
  have lA : w.heap.size ≤ A := by omega
  have lB : w.heap.size ≤ B := by omega
  have nAB : A ≠ B := by omega
  have nBA : B ≠ A := by omega
  have rA3 : Row v2 A 23 (u8s x) := (hv1.old nv2.below)
  have rB3 : Row v2 B 23 (u8s y) := hv2
  have bel3 : Below w.heap.size w v2 := (below_step (below_step (Below.refl _ _) (by omega) nv1.below) (by omega) nv2.below)
  clear q0 q1 q2 q3 Ae hv1 nv1 Be hv2 nv2
  refine wp_region_quiet (C := fun w' => Below v2.heap.size v2 w') (by kernel_rfl) (by kernel_rfl) ((Below.refl _ _).drew) ?_
  rw [List.toList_toArray]
  refine q_value 5 rfl (.slice (some ⟨A, 0, none⟩) 32 32) (by kernel_rfl) (fun w' _ => run_op_sliceAll _ _ rfl 32 5 (by kernel_rfl) (by kernel_rfl) A 0 rfl (by omega) w') ?_
  simp only [Act.put, List.setIfInBounds_toArray, List.set_cons_zero, List.set_cons_succ]
  refine q_value 6 rfl (.slice (some ⟨B, 0, none⟩) 32 32) (by kernel_rfl) (fun w' _ => run_op_sliceAll _ _ rfl 32 5 (by kernel_rfl) (by kernel_rfl) B 0 rfl (by omega) w') ?_
  simp only [Act.put, List.setIfInBounds_toArray, List.set_cons_zero, List.set_cons_succ]
  refine q_call 7 rfl (.int .i64 z) 23 #[.slice (some ⟨A, 0, none⟩) 32 32, .slice (some ⟨B, 0, none⟩) 32 32] (by kernel_rfl) (fun w' _ => run_op_call _ _ _ rfl _ (by simp only [List.map_toArray, List.map_cons, List.map_nil]; rfl) Tryd.func23 (by kernel_rfl) (by kernel_rfl) w') (fun w' hC => (CB.out A 0 B 0 w' ((Has.refl _).range (rA3.old hC)) ((Has.refl _).range (rB3.old hC))).mono fun e w'' h => ⟨h.1, h.2 ▸ hC⟩) ?_
  simp only [Act.put, List.setIfInBounds_toArray, List.set_cons_zero, List.set_cons_succ]
  refine q_value 4 rfl (.int .i64 z) (by kernel_rfl) (fun w' _ => by kernel_rfl) ?_
  simp only [Act.put, List.setIfInBounds_toArray, List.set_cons_zero, List.set_cons_succ]
  refine wpQuiet_nil ?_
  intro w2 hC
  go_wp2_with fail
  go_ret
  exact ⟨rfl, below_step bel3 bel3.size hC⟩
set_option maxHeartbeats 4000000 in
set_option maxRecDepth 100000 in
theorem isnan_any (n : Nat) (w : World) : Calls Tryd.prog 42 #[.int .u32 (n : Int)] w fun e w' => e = .returned (.bool false) ∧ w' = w := by
  have h1 : (((n : Nat) : Int) != ((n : Nat) : Int)) = false := by simp
  go_enter Tryd.func42, Tryd.ntmps42
  go_wp2_with fail
  go_ret
  exact ⟨rfl, rfl⟩
set_option maxHeartbeats 4000000 in
set_option maxRecDepth 100000 in
theorem cmpu_any (m n : Nat) (w : World) : Calls Tryd.prog 30 #[.int .u32 (m : Int), .int .u32 (n : Int)] w fun e w' => e = .returned (.int .i64 (cmpN m n)) ∧ w' = w := by
  rcases Nat.lt_trichotomy m n with h | h | h
  · rw [cmpN_lt h]
    have h1 : decide ((m : Int) < (n : Int)) = true := decide_eq_true (by omega)
    have h2 : decide ((n : Int) < (m : Int)) = false := decide_eq_false (by omega)
    have h3 : decide ((m : Int) > (n : Int)) = false := decide_eq_false (by omega)
    have h4 : decide (m < n) = true := decide_eq_true (by omega)
    have h5 : decide (n < m) = false := decide_eq_false (by omega)
    clear h
    go_enter Tryd.func30, Tryd.ntmps30
    go_wp2_with (refine (isnan_any _ _).mono ?_; rintro e w' ⟨rfl, rfl⟩)
    go_ret
    exact ⟨rfl, rfl⟩
  · rw [cmpN_zero.2 h]
    have h1 : decide ((m : Int) < (n : Int)) = false := decide_eq_false (by omega)
    have h2 : decide ((n : Int) < (m : Int)) = false := decide_eq_false (by omega)
    have h3 : decide ((m : Int) > (n : Int)) = false := decide_eq_false (by omega)
    have h4 : decide (m < n) = false := decide_eq_false (by omega)
    have h5 : decide (n < m) = false := decide_eq_false (by omega)
    clear h
    go_enter Tryd.func30, Tryd.ntmps30
    go_wp2_with (refine (isnan_any _ _).mono ?_; rintro e w' ⟨rfl, rfl⟩)
    go_ret
    exact ⟨rfl, rfl⟩
  · rw [cmpN_gt h]
    have h1 : decide ((m : Int) < (n : Int)) = false := decide_eq_false (by omega)
    have h2 : decide ((n : Int) < (m : Int)) = true := decide_eq_true (by omega)
    have h3 : decide ((m : Int) > (n : Int)) = true := decide_eq_true (by omega)
    have h4 : decide (m < n) = false := decide_eq_false (by omega)
    have h5 : decide (n < m) = true := decide_eq_true (by omega)
    clear h
    go_enter Tryd.func30, Tryd.ntmps30
    go_wp2_with (refine (isnan_any _ _).mono ?_; rintro e w' ⟨rfl, rfl⟩)
    go_ret
    exact ⟨rfl, rfl⟩
set_option maxHeartbeats 4000000 in
set_option maxRecDepth 100000 in
theorem byLen_any (a b : Ky) (w : World) (ka : a.Ok) (kb : b.Ok) :
    Calls Tryd.prog 20 #[.agg (kcs a).toArray, .agg (kcs b).toArray] w fun e w' => e = .returned (.int .i64 (cmpN a.len b.len)) ∧ Below w.heap.size w w' := by
  have KA := Lib.hid ka; have KB := Lib.hid kb
  have CC := Lib.hid (fun w0 => cmpu_any a.len b.len w0)
  generalize cmpN a.len b.len = z at CC ⊢
  clear ka kb
  go_enter Tryd.func20, Tryd.ntmps20
  go_wp2_with (first
    | ((with_reducible refine at_slot 2 ?_); (refine arm_box (o := ⟨some 2, _, _, _, _, _⟩) rfl _ _ rfl (kcs a) rfl ?_); intro A v1 Ae hv1 nv1)
    | ((with_reducible refine at_slot 3 ?_); (refine arm_box (o := ⟨some 3, _, _, _, _, _⟩) rfl _ _ rfl (kcs b) rfl ?_); intro B v2 Be hv2 nv2)
    | ((with_reducible refine at_slot 6 ?_); (refine arm_want (num32 a.len) 6 rfl (by kernel_rfl) (run_op_load1 _ _ rfl (.int .u32) (by kernel_rfl) rfl ⟨A, 0, none⟩ rfl (num32 a.len) ((hv1.old nv2.below).cell (show Has (kcs a) 0 [num32 a.len] from k0 a).get)) ?_))
    | ((with_reducible refine at_slot 8 ?_); (refine arm_want (num32 b.len) 8 rfl (by kernel_rfl) (run_op_load1 _ _ rfl (.int .u32) (by kernel_rfl) rfl ⟨B, 0, none⟩ rfl (num32 b.len) (hv2.cell (show Has (kcs b) 0 [num32 b.len] from k0 b).get)) ?_)))
  have q0 := Ae.out
  have q1 := nv1.size
  have q2 := Be.out
  have q3 := nv2.size
  have lA : w.heap.size ≤ A := by omega
  have lB : w.heap.size ≤ B := by omega
  have nAB : A ≠ B := by omega
  have nBA : B ≠ A := by omega
  have rA3 : Row v2 A 37 (kcs a) := (hv1.old nv2.below)
  have rB3 : Row v2 B 37 (kcs b) := hv2
  have bel3 : Below w.heap.size w v2 := (below_step (below_step (Below.refl _ _) (by omega) nv1.below) (by omega) nv2.below)
  clear q0 q1 q2 q3 Ae hv1 nv1 Be hv2 nv2
  refine (CC.out _).mono ?_
  rintro e4 z4 ⟨rfl, rfl⟩
  go_wp2_with fail
  go_ret
  exact ⟨rfl, bel3⟩
set_option maxHeartbeats 4000000 in
set_option maxRecDepth 100000 in
theorem byDraw_any (a b : Ky) (w : World) (ka : a.Ok) (kb : b.Ok) :
    Calls Tryd.prog 21 #[.agg (kcs a).toArray, .agg (kcs b).toArray] w fun e w' => e = .returned (.int .i64 (cmpN (val a.draw) (val b.draw))) ∧ Below w.heap.size w w' := by
  have KA := Lib.hid ka; have KB := Lib.hid kb
  have CC := Lib.hid (fun w0 => hashes_any a.draw b.draw w0 ka.draw kb.draw)
  generalize cmpN (val a.draw) (val b.draw) = z at CC ⊢
  clear ka kb
  go_enter Tryd.func21, Tryd.ntmps21
  go_wp2_with (first
    | ((with_reducible refine at_slot 2 ?_); (refine arm_box (o := ⟨some 2, _, _, _, _, _⟩) rfl _ _ rfl (kcs a) rfl ?_); intro A v1 Ae hv1 nv1)
    | ((with_reducible refine at_slot 3 ?_); (refine arm_box (o := ⟨some 3, _, _, _, _, _⟩) rfl _ _ rfl (kcs b) rfl ?_); intro B v2 Be hv2 nv2)
    | ((with_reducible refine at_slot 6 ?_); (refine arm_load (o := ⟨some 6, _, _, _, _, _⟩) rfl _ _ rfl A 1 rfl (u8s a.draw) ((show Has (kcs a) 1 (u8s a.draw) from k1 a).range ((hv1.old nv2.below))) (szH KA.out.draw) ?_))
    | ((with_reducible refine at_slot 8 ?_); (refine arm_load (o := ⟨some 8, _, _, _, _, _⟩) rfl _ _ rfl B 1 rfl (u8s b.draw) ((show Has (kcs b) 1 (u8s b.draw) from k1 b).range (hv2)) (szH KB.out.draw) ?_)))
  have q0 := Ae.out
  have q1 := nv1.size
  have q2 := Be.out
  have q3 := nv2.size
  have lA : w.heap.size ≤ A := by omega
  have lB : w.heap.size ≤ B := by omega
  have nAB : A ≠ B := by omega
  have nBA : B ≠ A := by omega
  have rA3 : Row v2 A 37 (kcs a) := (hv1.old nv2.below)
  have rB3 : Row v2 B 37 (kcs b) := hv2
  have bel3 : Below w.heap.size w v2 := (below_step (below_step (Below.refl _ _) (by omega) nv1.below) (by omega) nv2.below)
  clear q0 q1 q2 q3 Ae hv1 nv1 Be hv2 nv2
  refine (CC.out _).mono ?_
  rintro e y4 ⟨rfl, hB⟩
  have rA4 : Row y4 A 37 (kcs a) := rA3.old hB
  have rB4 : Row y4 B 37 (kcs b) := rB3.old hB
  have bel4 : Below w.heap.size w y4 := below_step bel3 bel3.size hB
  clear hB rA3 rB3 bel3
  go_wp2_with fail
  go_ret
  exact ⟨rfl, bel4⟩
set_option maxHeartbeats 4000000 in
set_option maxRecDepth 100000 in
theorem byHash_any (a b : Ky) (w : World) (ka : a.Ok) (kb : b.Ok) :
    Calls Tryd.prog 22 #[.agg (kcs a).toArray, .agg (kcs b).toArray] w fun e w' => e = .returned (.int .i64 (cmpN (val a.hash) (val b.hash))) ∧ Below w.heap.size w w' := by
  have KA := Lib.hid ka; have KB := Lib.hid kb
  have CC := Lib.hid (fun w0 => hashes_any a.hash b.hash w0 ka.hash kb.hash)
  generalize cmpN (val a.hash) (val b.hash) = z at CC ⊢
  clear ka kb
  go_enter Tryd.func22, Tryd.ntmps22
  go_wp2_with (first
    | ((with_reducible refine at_slot 2 ?_); (refine arm_box (o := ⟨some 2, _, _, _, _, _⟩) rfl _ _ rfl (kcs a) rfl ?_); intro A v1 Ae hv1 nv1)
    | ((with_reducible refine at_slot 3 ?_); (refine arm_box (o := ⟨some 3, _, _, _, _, _⟩) rfl _ _ rfl (kcs b) rfl ?_); intro B v2 Be hv2 nv2)
    | ((with_reducible refine at_slot 6 ?_); (refine arm_load (o := ⟨some 6, _, _, _, _, _⟩) rfl _ _ rfl A 33 rfl (u8s a.hash) ((show Has (kcs a) 33 (u8s a.hash) from k33 KA.out).range ((hv1.old nv2.below))) (szH KA.out.hash) ?_))
    | ((with_reducible refine at_slot 8 ?_); (refine arm_load (o := ⟨some 8, _, _, _, _, _⟩) rfl _ _ rfl B 33 rfl (u8s b.hash) ((show Has (kcs b) 33 (u8s b.hash) from k33 KB.out).range (hv2)) (szH KB.out.hash) ?_)))
  have q0 := Ae.out
  have q1 := nv1.size
  have q2 := Be.out
  have q3 := nv2.size
  have lA : w.heap.size ≤ A := by omega
  have lB : w.heap.size ≤ B := by omega
  have nAB : A ≠ B := by omega
  have nBA : B ≠ A := by omega
  have rA3 : Row v2 A 37 (kcs a) := (hv1.old nv2.below)
  have rB3 : Row v2 B 37 (kcs b) := hv2
  have bel3 : Below w.heap.size w v2 := (below_step (below_step (Below.refl _ _) (by omega) nv1.below) (by omega) nv2.below)
  clear q0 q1 q2 q3 Ae hv1 nv1 Be hv2 nv2
  refine (CC.out _).mono ?_
  rintro e y4 ⟨rfl, hB⟩
  have rA4 : Row y4 A 37 (kcs a) := rA3.old hB
  have rB4 : Row y4 B 37 (kcs b) := rB3.old hB
  have bel4 : Below w.heap.size w y4 := below_step bel3 bel3.size hB
  clear hB rA3 rB3 bel3
  go_wp2_with fail
  go_ret
  exact ⟨rfl, bel4⟩
/-! ### Several orders put into one. -/
def fns : List Value := [.func (.func 20) #[] #[], .func (.func 21) #[] #[], .func (.func 22) #[] #[]]
theorem run_fns (w : World) : (Instr.buildSlice 74 3 #[(0, .func (.func 20) #[] #[]), (1, .func (.func 21) #[] #[]), (2, .func (.func 22) #[] #[])]).run Tryd.prog w = .ok (.slice (some ⟨w.heap.size, 0, none⟩) 3 3) (w.alloc (.cells fns.toArray 53)) := by kernel_rfl
theorem arm_fns {ops : Array Oper} {rest : List Oper} {o : Oper} {a : Act} {w : World} {Q : Exit → Act → World → Prop} (hgd : o.guard = none) (parts : Array (Nat × Operand)) (ho : o.op = .buildSlice 74 3 parts) (hpv : (parts.map fun (i, y) => (i, a.eval y)) = #[(0, .func (.func 20) #[] #[]), (1, .func (.func 21) #[] #[]), (2, .func (.func 22) #[] #[])])
    (h : ∀ b w2, Hid (b = w.heap.size) → Row w2 b 53 fns → New w w2 → wpList Tryd.prog ops Q rest (a.put o.dst (.slice (some ⟨b, 0, none⟩) 3 3)) w2) : wpList Tryd.prog ops Q (o :: rest) a w := by
  refine wpList_plain hgd fun K hK => ?_
  unfold Oper.wp execOp
  simp only [ho, hpv, Sem.run_bind, run_fns w, Result.andThen_ok, Sem.run_pure]
  exact hK _ _ (h _ _ rfl (heap_alloc_new _ _) (new_alloc _ _))
structure ItRel (w : World) (A B : Nat) (a b : Ky) (z0 z1 z2 : Int) (i : Value) (wr : World) : Prop where
  ex : i = .int .i64 0 ∨ (i = .int .i64 1 ∧ z0 = 0) ∨ (i = .int .i64 2 ∧ z0 = 0 ∧ z1 = 0) ∨ (i = .int .i64 3 ∧ z0 = 0 ∧ z1 = 0 ∧ z2 = 0)
  ra : Row wr A 37 (kcs a)
  rb : Row wr B 37 (kcs b)
  bel : Below w.heap.size w wr
theorem turn0 {a b : Ky} (j : a.Ok) (k : b.Ok) (h : cmpN a.len b.len ≠ 0) : kcmp a b = cmpN a.len b.len := by rw [kcmp_parts j k, if_neg h]
theorem turn1 {a b : Ky} (j : a.Ok) (k : b.Ok) (h : cmpN a.len b.len = 0) (g : cmpN (val a.draw) (val b.draw) ≠ 0) : kcmp a b = cmpN (val a.draw) (val b.draw) := by rw [kcmp_parts j k, if_pos h, if_neg g]
theorem turn2 {a b : Ky} (j : a.Ok) (k : b.Ok) (h : cmpN a.len b.len = 0) (g : cmpN (val a.draw) (val b.draw) = 0) : kcmp a b = cmpN (val a.hash) (val b.hash) := by rw [kcmp_parts j k, if_pos h, if_pos g]
set_option maxHeartbeats 4000000 in
set_option maxRecDepth 100000 in
theorem inTurn_any (a b : Ky) (P : Nat) (w : World) (ka : a.Ok) (kb : b.Ok) (hP : Row w P 53 fns) :
    Calls Tryd.prog 19 #[.agg (kcs a).toArray, .agg (kcs b).toArray, .slice (some ⟨P, 0, none⟩) 3 3] w fun e w' => e = .returned (.int .i64 (kcmp a b)) ∧ Below w.heap.size w w' := by
  have KA := Lib.hid ka; have KB := Lib.hid kb
  have FN : Hid (∀ w', Below w.heap.size w w' → Row w' P 53 fns) := Lib.hid fun w' hb => hP.old hb
  have C0 := Lib.hid (fun w0 => byLen_any a b w0 ka kb)
  have C1 := Lib.hid (fun w0 => byDraw_any a b w0 ka kb)
  have C2 := Lib.hid (fun w0 => byHash_any a b w0 ka kb)
  have Q0 := Lib.hid (turn0 ka kb); have Q1 := Lib.hid (turn1 ka kb); have Q2 := Lib.hid (turn2 ka kb)
  generalize kcmp a b = q at Q0 Q1 Q2 ⊢
  generalize cmpN a.len b.len = z0 at C0 Q0 Q1 Q2
  generalize cmpN (val a.draw) (val b.draw) = z1 at C1 Q1 Q2
  generalize cmpN (val a.hash) (val b.hash) = z2 at C2 Q2
  clear ka kb hP
  go_enter Tryd.func19, Tryd.ntmps19
  go_wp2_with (first
    | ((with_reducible refine at_slot 3 ?_); (refine arm_box (o := ⟨some 3, _, _, _, _, _⟩) rfl _ _ rfl (kcs a) rfl ?_); intro A v1 Ae hv1 nv1)
    | ((with_reducible refine at_slot 4 ?_); (refine arm_box (o := ⟨some 4, _, _, _, _, _⟩) rfl _ _ rfl (kcs b) rfl ?_); intro B v2 Be hv2 nv2))
  have q0 := Ae.out
  have q1 := nv1.size
  have q2 := Be.out
  have q3 := nv2.size
  have lA : w.heap.size ≤ A := by omega
  have lB : w.heap.size ≤ B := by omega
  have nAB : A ≠ B := by omega
  have nBA : B ≠ A := by omega
  have rA3 : Row v2 A 37 (kcs a) := (hv1.old nv2.below)
  have rB3 : Row v2 B 37 (kcs b) := hv2
  have bel3 : Below w.heap.size w v2 := (below_step (below_step (Below.refl _ _) (by omega) nv1.below) (by omega) nv2.below)
  clear q0 q1 q2 q3 Ae hv1 nv1 Be hv2 nv2
  have h0 : ItRel w A B a b z0 z1 z2 (.int .i64 0) v2 := ⟨.inl rfl, rA3, rB3, bel3⟩
  clear rA3 rB3 bel3
  go_loopw [12] (fun i wr => ItRel w A B a b z0 z1 z2 i wr) (fun i _ => 3 - (intOf i).toNat)
  case atStart => exact h0
  case round =>
    clear h0
    obtain ⟨hex, ra, rb, bel⟩ := hrel
    have FP := FN.out _ bel
    rcases hex with rfl | ⟨rfl, rfl⟩ | ⟨rfl, rfl, rfl⟩ | ⟨rfl, rfl, rfl, rfl⟩
    · skip
      go_wp2_with (first
        | ((with_reducible refine at_slot 15 ?_); (refine arm_want (.func (.func 20) #[] #[]) 15 rfl (by kernel_rfl) (run_op_load1 _ _ rfl (.func #[37, 37] #[3] false) (by kernel_rfl) rfl ⟨P, 0, none⟩ rfl (.func (.func 20) #[] #[]) (FP.cell rfl)) ?_))
        | ((with_reducible refine at_slot 17 ?_); (refine arm_load (o := ⟨some 17, _, _, _, _, _⟩) rfl _ _ rfl A 0 rfl (kcs a) ((show Has (kcs a) 0 (kcs a) from Has.refl _).range (ra)) (sz_key KA.out) ?_))
        | ((with_reducible refine at_slot 18 ?_); (refine arm_load (o := ⟨some 18, _, _, _, _, _⟩) rfl _ _ rfl B 0 rfl (kcs b) ((show Has (kcs b) 0 (kcs b) from Has.refl _).range (rb)) (sz_key KB.out) ?_)))
      clear FP
      refine (C0.out _).mono ?_
      rintro e y101 ⟨rfl, hB⟩
      have rA101 : Row y101 A 37 (kcs a) := ra.old hB
      have rB101 : Row y101 B 37 (kcs b) := rb.old hB
      have bel101 : Below w.heap.size w y101 := below_step bel bel.size hB
      clear hB ra rb bel
      by_cases hz : z0 = 0
      · subst hz
        go_wp2_with fail
        try simp only [Act.put]
        go_roundw
        case rel => exact ⟨.inr (.inl ⟨rfl, rfl⟩), rA101, rB101, bel101⟩
        case measure => decide
      · have hz1 : (z0 == 0) = false := beq_eq_false_iff_ne.2 hz
        have hz2 : (z0 != 0) = true := bne_iff_ne.2 hz
        have HQ := Lib.hid (Q0.out hz)
        clear hz Q0 Q1 Q2
        go_wp2_with fail
        rw [HQ.out]
        go_ret
        exact ⟨rfl, bel101⟩
    · skip
      go_wp2_with (first
        | ((with_reducible refine at_slot 15 ?_); (refine arm_want (.func (.func 21) #[] #[]) 15 rfl (by kernel_rfl) (run_op_load1 _ _ rfl (.func #[37, 37] #[3] false) (by kernel_rfl) rfl ⟨P, 1, none⟩ rfl (.func (.func 21) #[] #[]) (FP.cell rfl)) ?_))
        | ((with_reducible refine at_slot 17 ?_); (refine arm_load (o := ⟨some 17, _, _, _, _, _⟩) rfl _ _ rfl A 0 rfl (kcs a) ((show Has (kcs a) 0 (kcs a) from Has.refl _).range (ra)) (sz_key KA.out) ?_))
        | ((with_reducible refine at_slot 18 ?_); (refine arm_load (o := ⟨some 18, _, _, _, _, _⟩) rfl _ _ rfl B 0 rfl (kcs b) ((show Has (kcs b) 0 (kcs b) from Has.refl _).range (rb)) (sz_key KB.out) ?_)))
      clear FP
      refine (C1.out _).mono ?_
      rintro e y101 ⟨rfl, hB⟩
      have rA101 : Row y101 A 37 (kcs a) := ra.old hB
      have rB101 : Row y101 B 37 (kcs b) := rb.old hB
      have bel101 : Below w.heap.size w y101 := below_step bel bel.size hB
      clear hB ra rb bel
      by_cases hz : z1 = 0
      · subst hz
        go_wp2_with fail
        try simp only [Act.put]
        go_roundw
        case rel => exact ⟨.inr (.inr (.inl ⟨rfl, rfl, rfl⟩)), rA101, rB101, bel101⟩
        case measure => decide
      · have hz1 : (z1 == 0) = false := beq_eq_false_iff_ne.2 hz
        have hz2 : (z1 != 0) = true := bne_iff_ne.2 hz
        have HQ := Lib.hid (Q1.out (by first | rfl | trivial) hz)
        clear hz Q0 Q1 Q2
        go_wp2_with fail
        rw [HQ.out]
        go_ret
        exact ⟨rfl, bel101⟩
    · skip
      go_wp2_with (first
        | ((with_reducible refine at_slot 15 ?_); (refine arm_want (.func (.func 22) #[] #[]) 15 rfl (by kernel_rfl) (run_op_load1 _ _ rfl (.func #[37, 37] #[3] false) (by kernel_rfl) rfl ⟨P, 2, none⟩ rfl (.func (.func 22) #[] #[]) (FP.cell rfl)) ?_))
        | ((with_reducible refine at_slot 17 ?_); (refine arm_load (o := ⟨some 17, _, _, _, _, _⟩) rfl _ _ rfl A 0 rfl (kcs a) ((show Has (kcs a) 0 (kcs a) from Has.refl _).range (ra)) (sz_key KA.out) ?_))
        | ((with_reducible refine at_slot 18 ?_); (refine arm_load (o := ⟨some 18, _, _, _, _, _⟩) rfl _ _ rfl B 0 rfl (kcs b) ((show Has (kcs b) 0 (kcs b) from Has.refl _).range (rb)) (sz_key KB.out) ?_)))
      clear FP
      refine (C2.out _).mono ?_
      rintro e y101 ⟨rfl, hB⟩
      have rA101 : Row y101 A 37 (kcs a) := ra.old hB
      have rB101 : Row y101 B 37 (kcs b) := rb.old hB
      have bel101 : Below w.heap.size w y101 := below_step bel bel.size hB
      clear hB ra rb bel
      by_cases hz : z2 = 0
      · subst hz
        go_wp2_with fail
        try simp only [Act.put]
        go_roundw
        case rel => exact ⟨.inr (.inr (.inr ⟨rfl, rfl, rfl, rfl⟩)), rA101, rB101, bel101⟩
        case measure => decide
      · have hz1 : (z2 == 0) = false := beq_eq_false_iff_ne.2 hz
        have hz2 : (z2 != 0) = true := bne_iff_ne.2 hz
        have HQ := Lib.hid (Q2.out (by first | rfl | trivial) (by first | rfl | trivial))
        clear hz Q0 Q1 Q2
        go_wp2_with fail
        rw [HQ.out]
        go_ret
        exact ⟨rfl, bel101⟩
    · skip
      have HQ := Lib.hid (Q2.out rfl rfl)
      go_wp2_with fail
      rw [HQ.out]
      go_ret
      exact ⟨rfl, bel⟩
set_option maxHeartbeats 4000000 in
set_option maxRecDepth 100000 in
theorem compare_any (a b : Ky) (w : World) (ka : a.Ok) (kb : b.Ok) :
    Calls Tryd.prog 10 #[.agg (kcs a).toArray, .agg (kcs b).toArray] w fun e w' => e = .returned (.int .i64 (kcmp a b)) ∧ Below w.heap.size w w' := by
  have KA := Lib.hid ka; have KB := Lib.hid kb
  have CT := Lib.hid (fun P w0 h => inTurn_any a b P w0 ka kb h)
  generalize kcmp a b = q at CT ⊢
  clear ka kb
  go_enter Tryd.func10, Tryd.ntmps10
  go_wp2_with (first
    | ((with_reducible refine at_slot 2 ?_); (refine arm_box (o := ⟨some 2, _, _, _, _, _⟩) rfl _ _ rfl (kcs a) rfl ?_); intro A v1 Ae hv1 nv1)
    | ((with_reducible refine at_slot 3 ?_); (refine arm_box (o := ⟨some 3, _, _, _, _, _⟩) rfl _ _ rfl (kcs b) rfl ?_); intro B v2 Be hv2 nv2)
    | ((with_reducible refine at_slot 5 ?_); (refine arm_load (o := ⟨some 5, _, _, _, _, _⟩) rfl _ _ rfl A 0 rfl (kcs a) ((show Has (kcs a) 0 (kcs a) from Has.refl _).range ((hv1.old nv2.below))) (sz_key KA.out) ?_))
    | ((with_reducible refine at_slot 6 ?_); (refine arm_load (o := ⟨some 6, _, _, _, _, _⟩) rfl _ _ rfl B 0 rfl (kcs b) ((show Has (kcs b) 0 (kcs b) from Has.refl _).range (hv2)) (sz_key KB.out) ?_))
    | ((with_reducible refine at_slot 7 ?_); (refine arm_fns (o := ⟨some 7, _, _, _, _, _⟩) rfl _ rfl (by simp only [List.map_toArray, List.map_cons, List.map_nil]; rfl) ?_); intro F v3 Fe hv3 nv3))
  have q0 := Ae.out
  have q1 := nv1.size
  have q2 := Be.out
  have q3 := nv2.size
  have q4 := Fe.out
  have q5 := nv3.size
  have lA : w.heap.size ≤ A := by omega
  have lB : w.heap.size ≤ B := by omega
  have nAB : A ≠ B := by omega
  have nBA : B ≠ A := by omega
  have lF : w.heap.size ≤ F := by omega
  have nAF : A ≠ F := by omega
  have nFA : F ≠ A := by omega
  have nBF : B ≠ F := by omega
  have nFB : F ≠ B := by omega
  have rA4 : Row v3 A 37 (kcs a) := ((hv1.old nv2.below).old nv3.below)
  have rB4 : Row v3 B 37 (kcs b) := (hv2.old nv3.below)
  have rF4 : Row v3 F 53 (fns) := hv3
  have bel4 : Below w.heap.size w v3 := (below_step (below_step (below_step (Below.refl _ _) (by omega) nv1.below) (by omega) nv2.below) (by omega) nv3.below)
  clear q0 q1 q2 q3 q4 q5 Ae hv1 nv1 Be hv2 nv2 Fe hv3 nv3
  refine (CT.out F _ rF4).mono ?_
  rintro e y5 ⟨rfl, hB⟩
  have rA5 : Row y5 A 37 (kcs a) := rA4.old hB
  have rB5 : Row y5 B 37 (kcs b) := rB4.old hB
  have rF5 : Row y5 F 53 (fns) := rF4.old hB
  have bel5 : Below w.heap.size w y5 := below_step bel4 bel4.size hB
  clear hB rA4 rB4 rF4 bel4
  go_wp2_with fail
  go_ret
  exact ⟨rfl, bel5⟩
/-- A state's key. -/
def keyN (s : Sta) : Ky := ⟨s.len, s.draw, digS s⟩
theorem keyN_ok {s : Sta} (k : s.Ok) : (keyN s).Ok := ⟨k.len, k.draw, digS_ok s⟩
set_option maxHeartbeats 4000000 in
set_option maxRecDepth 100000 in
theorem of_any (s : Sta) (w : World) (ok : s.Ok) (hk : w.rangeAt 1 0 (u32s ks)) :
    Calls Tryd.prog 7 #[.agg (scs s).toArray] w fun e w' => e = .returned (.agg (kcs (keyN s)).toArray) ∧ Below w.heap.size w w' := by
  have hk1 : 1 < w.heap.size := range_lt hk (by simp [u32s, ks])
  have HKW : Hid (∀ w', Below w.heap.size w w' → w'.rangeAt 1 0 (u32s ks)) := Lib.hid fun w' hb => range_block hk (hb.block _ hk1)
  have OK := Lib.hid ok
  have KK := Lib.hid (keyN_ok ok)
  have KB := Lib.hid (built_key (keyN_ok ok))
  have CH := Lib.hid (fun w0 h => Sa.shash_any s w0 ok h)
  clear ok hk hk1
  go_enter Tryd.func7, Tryd.ntmps7
  go_wp2_with (first
    | ((with_reducible refine at_slot 1 ?_); (refine arm_box (o := ⟨some 1, _, _, _, _, _⟩) rfl _ _ rfl (scs s) rfl ?_); intro A v1 Ae hv1 nv1)
    | ((with_reducible refine at_slot 2 ?_); (refine arm_alloc (o := ⟨some 2, _, _, _, _, _⟩) rfl _ rfl (kcs zk) z_key ?_); intro R v2 Re hv2 nv2))
  have q0 := Ae.out
  have q1 := nv1.size
  have q2 := Re.out
  have q3 := nv2.size
  have lA : w.heap.size ≤ A := by omega
  have lR : w.heap.size ≤ R := by omega
  have nAR : A ≠ R := by omega
  have nRA : R ≠ A := by omega
  have rA3 : Row v2 A 35 (scs s) := (hv1.old nv2.below)
  have rR3 : Row v2 R 37 (kcs zk) := hv2
  have bel3 : Below w.heap.size w v2 := (below_step (below_step (Below.refl _ _) (by omega) nv1.below) (by omega) nv2.below)
  clear q0 q1 q2 q3 Ae hv1 nv1 Re hv2 nv2
  refine wp_region_held (S := fun w' => Row w' A 35 (scs s) ∧ True) (by kernel_rfl) ?_
  change wpAnyH _ _ _ _ _ _ _ _ v2.drew
  have rA4 : Row v2.drew A 35 (scs s) := rA3
  have rR4 : Row v2.drew R 37 (kcs zk) := rR3
  have bel4 : Below w.heap.size w v2.drew := bel3.trans ((Below.refl _ _).drew)
  clear rA3 rR3 bel3
  generalize v2.drew = y4 at rA4 rR4 bel4 ⊢
  refine h_take 0 (.pointer (some ⟨A, 97, none⟩)) rfl 3 rfl (by kernel_rfl) (by kernel_rfl) (by kernel_rfl) (by kernel_rfl) (fun _ _ _ h => h) (fun w' _ => by kernel_rfl) ⟨rA4, trivial⟩ ?_
  simp only [Act.put, List.setIfInBounds_toArray, List.set_cons_zero, List.set_cons_succ]
  refine h_take 1 (num32 s.len) rfl 4 rfl (by kernel_rfl) (by kernel_rfl) (by kernel_rfl) (by kernel_rfl) (fun _ _ _ h => h) (fun w' hw => run_op_load1 _ _ rfl (.int .u32) (by kernel_rfl) rfl ⟨A, 97, none⟩ rfl (num32 s.len) (hw.1.cell (show Has (scs s) 97 [num32 s.len] from h_lngth OK.out).get)) ⟨rA4, trivial⟩ ?_
  simp only [Act.put, List.setIfInBounds_toArray, List.set_cons_zero, List.set_cons_succ]
  refine h_take 2 (.pointer (some ⟨A, 64, none⟩)) rfl 5 rfl (by kernel_rfl) (by kernel_rfl) (by kernel_rfl) (by kernel_rfl) (fun _ _ _ h => h) (fun w' _ => by kernel_rfl) ⟨rA4, trivial⟩ ?_
  simp only [Act.put, List.setIfInBounds_toArray, List.set_cons_zero, List.set_cons_succ]
  refine h_take 3 (.agg (u8s s.draw).toArray) rfl 6 rfl (by kernel_rfl) (by kernel_rfl) (by kernel_rfl) (by kernel_rfl) (fun _ _ _ h => h) (fun w' hw => run_op_load _ _ rfl A 64 rfl (u8s s.draw) ((show Has (scs s) 64 (u8s s.draw) from h_drw OK.out).range hw.1) (szH OK.out.draw)) ⟨rA4, trivial⟩ ?_
  simp only [Act.put, List.setIfInBounds_toArray, List.set_cons_zero, List.set_cons_succ]
  refine h_take 4 (.agg (scs s).toArray) rfl 7 rfl (by kernel_rfl) (by kernel_rfl) (by kernel_rfl) (by kernel_rfl) (fun _ _ _ h => h) (fun w' hw => run_op_load _ _ rfl A 0 rfl (scs s) ((show Has (scs s) 0 (scs s) from Has.refl _).range hw.1) (sz_sta OK.out)) ⟨rA4, trivial⟩ ?_
  simp only [Act.put, List.setIfInBounds_toArray, List.set_cons_zero, List.set_cons_succ]
  refine h_one (i := 5) (by kernel_rfl) (o_call rfl 8 rfl (by kernel_rfl) (run_op_call 17 _ _ rfl #[.agg (scs s).toArray] (by simp only [List.map_toArray, List.map_cons, List.map_nil]; rfl) Tryd.func17 (by kernel_rfl) (by kernel_rfl) _) (CH.out y4 (HKW.out _ bel4)) ?_)
  rintro e y5 ⟨rfl, hB⟩
  have rA5 : Row y5 A 35 (scs s) := rA4.old hB
  have rR5 : Row y5 R 37 (kcs zk) := rR4.old hB
  have bel5 : Below w.heap.size w y5 := below_step bel4 bel4.size hB
  clear hB rA4 rR4 bel4
  refine ⟨_, rfl, ⟨rA5, trivial⟩, ?_⟩
  simp only [Act.put, List.setIfInBounds_toArray, List.set_cons_zero, List.set_cons_succ]
  refine h_take 6 (.agg (kcs (keyN s)).toArray) rfl 9 rfl (by kernel_rfl) (by kernel_rfl) (by kernel_rfl) (by kernel_rfl) (fun _ _ _ h => h) (fun w' hw => run_op_build _ _ rfl (kcs (keyN s)) (by simp only [List.map_toArray, List.map_cons, List.map_nil]; exact KB.out) w') ⟨rA5, trivial⟩ ?_
  simp only [Act.put, List.setIfInBounds_toArray, List.set_cons_zero, List.set_cons_succ]
  refine h_one (i := 7) (by kernel_rfl) (o_skip rfl rfl (by kernel_rfl) (run_op_store _ _ _ rfl R 0 rfl (kcs (keyN s)) rfl _ _ rR5 (fitK KK.out) (kcs_one _) (sz_key KK.out)) ?_)
  have rq := row_setRow rR5 (lay (kcs zk) 0 (kcs (keyN s)))
  have oq := Only.setRow R y5 (lay (kcs zk) 0 (kcs (keyN s))).toArray
  generalize y5.setRow R (lay (kcs zk) 0 (kcs (keyN s))).toArray = y6 at rq oq ⊢
  have rA6 : Row y6 A 35 (scs s) := rA5.only oq nAR
  have rR6 : Row y6 R 37 (kcs (keyN s)) := rq.congr (allK KK.out)
  have bel6 : Below w.heap.size w y6 := below_only bel5 oq lR bel5.size
  clear rA5 rR5 rq bel5 oq
  refine ⟨⟨rA6, trivial⟩, ?_⟩
  refine wpAnyH_done (by kernel_rfl) ?_ _
  go_wp2_with fail
  exact bodyPost_ret (v := .agg (kcs (keyN s)).toArray) (result_row (p := 2) (ty := 37) (u := 37) (by kernel_rfl) _ _ R (kcs (keyN s)) rfl rR6 (sz_key KK.out)) rfl ⟨rfl, bel6⟩
end Go.Proofs.YtffdmfclakgocaaDoor.Od
