/-
  Things (a kind, a number, a digest, bytes, how many may be) that came in; the contract of layer 4's large, over this seat's translation.
-/
import Derived.Test.YticdapgfjkhoaaaWireRead3
namespace Go.Proofs.Yticdapgfjkhoaaa.Wi
open Go.ChangeShapes Go.WideShapes Go.ChangeAt Go.RowKit Go.Proofs.Yticdapgfjkhoaaa.Mem Go.Proofs.Yticdapgfjkhoaaa.Bt Go.Proofs.Yticdapgfjkhoaaa.Tg
set_option linter.unusedVariables false

structure Thing where
  kind : Int
  n : Nat
  h : List Nat
  b : List Nat
  bp : Option Addr
  bc : Nat
  most : Int
instance : Inhabited Thing := ⟨⟨0, 0, [], [], none, 0, 0⟩⟩
/-- Its cells. -/
def tcells (x : Thing) : List Value := .int .i64 x.kind :: .int .u64 (x.n : Int) :: (u8s x.h ++ [.slice x.bp x.b.length x.bc, .int .i64 x.most])
/-- A thing that can be, in this memory. -/
structure ThingOk (w : World) (x : Thing) : Prop where
  n_ : x.n < 18446744073709551616
  h_ : x.h.length = 32
  hlt : AllLt 256 x.h
  came : Came w x.bp x.bc x.b
theorem ThingOk.below {w w' : World} {x : Thing} (h : ThingOk w x) (hb : Below w.heap.size w w') : ThingOk w' x := ⟨h.n_, h.h_, h.hlt, h.came.below hb⟩
theorem tcells_len {x : Thing} (h : x.h.length = 32) : (tcells x).length = 36 := by
  unfold tcells
  rw [List.length_cons, List.length_cons, List.length_append, u8s_length, h]
  rfl
theorem tcells_one (x : Thing) : OneCells (tcells x) := by
  intro v hv
  unfold tcells at hv
  simp only [List.mem_cons, List.mem_append, List.not_mem_nil, or_false] at hv
  rcases hv with rfl | rfl | hv | rfl | rfl
  · rfl
  · rfl
  · exact u8s_one _ v hv
  · rfl
  · rfl
theorem tcells0 (x : Thing) : (tcells x)[0]? = some (.int .i64 x.kind) := rfl
theorem tcells1 (x : Thing) : (tcells x)[1]? = some (.int .u64 (x.n : Int)) := rfl
theorem tcells34 {x : Thing} (h : x.h.length = 32) : (tcells x)[34]? = some (.slice x.bp x.b.length x.bc) := by
  unfold tcells
  rw [List.getElem?_cons_succ, List.getElem?_cons_succ, List.getElem?_append_right (by rw [u8s_length, h]; omega), u8s_length, h]
  rfl
theorem tcells35 {x : Thing} (h : x.h.length = 32) : (tcells x)[35]? = some (.int .i64 x.most) := by
  unfold tcells
  rw [List.getElem?_cons_succ, List.getElem?_cons_succ, List.getElem?_append_right (by rw [u8s_length, h]; omega), u8s_length, h]
  rfl
theorem tcells_hash {w : World} {X : Nat} {t : TypeId} {x : Thing} (hr : Row w X t (tcells x)) : w.rangeAt X 2 (u8s x.h) :=
  hr.range 2 _ (fun j v hj => by
    have hj2 := (List.getElem?_eq_some_iff.1 hj).1
    unfold tcells
    rw [Nat.add_comm, List.getElem?_cons_succ, List.getElem?_cons_succ, List.getElem?_append_left hj2]
    exact hj)
/-- Things that came in. -/
structure Things (w : World) (P : Option Addr) (l : List Thing) : Prop where
  at_ : 0 < l.length → ∃ g o, P = some ⟨g, o, none⟩ ∧ g < w.heap.size ∧ ∀ i, i < l.length → w.rangeAt g (o + i * 36) (tcells (l.getD i default)) ∧ ThingOk w (l.getD i default)
theorem Things.below {w w' : World} {P : Option Addr} {l : List Thing} (h : Things w P l) (hb : Below w.heap.size w w') : Things w' P l :=
  ⟨fun hn => by
    obtain ⟨g, o, e, hg, hr⟩ := h.at_ hn
    refine ⟨g, o, e, Nat.lt_of_lt_of_le hg hb.size, fun i hi => ?_⟩
    obtain ⟨hc, hok⟩ := hr i hi
    exact ⟨range_block hc (hb.block g hg), hok.below hb⟩⟩
theorem Things.mem {w : World} {P : Option Addr} {l : List Thing} (h : Things w P l) : ∀ x ∈ l, ThingOk w x := by
  intro x hx
  obtain ⟨i, hi, rfl⟩ := List.getElem_of_mem hx
  obtain ⟨g, o, e, hg, hr⟩ := h.at_ (by omega)
  have := (hr i hi).2
  rwa [List.getD_eq_getElem?_getD, List.getElem?_eq_getElem hi] at this
theorem z_thing : Mem.Zero Try.prog 33 (tcells ⟨0, 0, List.replicate 32 0, [], none, 0, 0⟩) := by unfold Mem.Zero; kernel_rfl
theorem sz_thing : Sized Try.prog 33 36 := ⟨.struct (Try.prog.fieldsOf 33), by kernel_rfl, rfl, by kernel_rfl⟩
def zcells : List Value := tcells ⟨0, 0, List.replicate 32 0, [], none, 0, 0⟩
theorem zcells_len : zcells.length = 36 := tcells_len (by simp)
/-- What large answers. -/
structure LargePost (w : World) (l : List Thing) (e : Ending) (w' : World) : Prop where
  ex : ∃ b : Bool, e = .returned (.bool b) ∧ (b = false → l.length ≤ 100 ∧ ∀ x ∈ l, x.b.length ≤ 300)
  bel : Below w.heap.size w w'
structure LgRel (w : World) (l : List Thing) (i : Value) (wr : World) : Prop where
  ex : ∃ k : Nat, k ≤ l.length ∧ i = .int .i64 k ∧ ∀ j, j < k → (l.getD j default).b.length ≤ 300
  bel : Below w.heap.size w wr
set_option maxHeartbeats 1000000 in
set_option maxRecDepth 100000 in
theorem large_any (l : List Thing) (P : Option Addr) (cap : Nat) (w : World) (hl : Things w P l) (hm : l.length ≤ maxLen) :
    Calls Try.prog 8 #[.slice P l.length cap] w (LargePost w l) := by
  have HL := Lib.hid hl; clear hl
  unfold maxLen at hm
  by_cases h1 : l.length ≤ 100
  · have hd1 : decide ((100 : Int) < (l.length : Int)) = false := decide_eq_false (by omega)
    have h0 : LgRel w l (.int .i64 0) w := ⟨⟨0, by omega, rfl, fun j hj => by omega⟩, Below.refl _ _⟩
    go_enter Try.func8, Try.ntmps8
    go_wp2_with fail
    go_loopw [10] (fun i wr => LgRel w l i wr) (fun i _ => l.length - (intOf i).toNat)
    case atStart => exact h0
    case round =>
      clear h0
      obtain ⟨⟨k, hk, rfl, hall⟩, hbel⟩ := hrel
      have HA := Lib.hid hall; clear hall
      by_cases hlt : k < l.length
      · obtain ⟨g, o, rfl, hg, hrows⟩ := HL.out.at_ (by omega)
        obtain ⟨hrg, hok⟩ := hrows k hlt
        have hrw := range_block hrg (hbel.block g hg)
        have hmx := hok.came.max_
        have hcp := hok.came.cap_
        unfold maxLen at hmx
        clear hrows hrg
        obtain ⟨x, hx⟩ : ∃ x, x = l.getD k default := ⟨_, rfl⟩
        rw [← hx] at hrw hok hmx hcp
        have HX := Lib.hid hx; clear hx
        have HTL := Lib.hid (tcells_len hok.h_)
        have HT1 := Lib.hid (tcells_one x)
        have H34 := Lib.hid (tcells34 hok.h_)
        obtain ⟨tc, htc⟩ : ∃ tc, tc = tcells x := ⟨_, rfl⟩
        rw [← htc] at hrw HTL HT1 H34
        have HOK := Lib.hid hok; clear htc hok
        have ik : (k : Int) < (l.length : Int) := by omega
        by_cases hbig : x.b.length ≤ 300
        · have hnb : decide ((300 : Int) < (x.b.length : Int)) = false := decide_eq_false (by omega)
          go_wp2_with (first
            | ((with_reducible refine at_slot 12 ?_); (refine arm_indexN (o := ⟨some 12, _, _, _, _, _⟩) rfl _ _ _ rfl 33 36 (by kernel_rfl) (by kernel_rfl) g o _ _ rfl .i64 k rfl hlt ?_))
            | ((with_reducible refine at_slot 13 ?_); (refine arm_load (o := ⟨some 13, _, _, _, _, _⟩) rfl _ _ rfl g (o + k * 36) rfl tc hrw (by rw [HTL.out]; exact sz_thing) ?_))
            | ((with_reducible refine at_slot 4 ?_); (refine arm_alloc (o := ⟨some 4, _, _, _, _, _⟩) rfl _ rfl zcells z_thing ?_); intro X w4 hXe hR4 hN4)
            | ((with_reducible refine arm_store (o := ⟨none, _, _, _, _, _⟩) rfl _ _ _ rfl X 0 rfl tc rfl _ _ hR4 (by rw [HTL.out, zcells_len]; omega) HT1.out (by rw [HTL.out]; exact sz_thing) ?_); intro w5 hR5 hO5 hS5; have cX34 : w5.cell? ⟨X, 34, none⟩ = some (.slice x.bp x.b.length x.bc) := (hR5.congr (lay_all _ _ (by rw [HTL.out, zcells_len]))).cell H34.out))
          have eX := hXe.out
          go_roundw
          case rel => exact ⟨⟨k + 1, by omega, by go_num, fun j hj => by
            rcases Nat.lt_or_ge j k with h | h
            · exact HA.out j h
            · obtain rfl : j = k := by omega
              rw [← HX.out]; exact hbig⟩, below_only (below_step hbel hbel.size hN4.below) hO5 (by have := hbel.size; omega) (Nat.le_trans hbel.size hN4.below.size)⟩
          case measure => simp [intOf]; omega
        · have hnb : decide ((300 : Int) < (x.b.length : Int)) = true := decide_eq_true (by omega)
          go_wp2_with (first
            | ((with_reducible refine at_slot 12 ?_); (refine arm_indexN (o := ⟨some 12, _, _, _, _, _⟩) rfl _ _ _ rfl 33 36 (by kernel_rfl) (by kernel_rfl) g o _ _ rfl .i64 k rfl hlt ?_))
            | ((with_reducible refine at_slot 13 ?_); (refine arm_load (o := ⟨some 13, _, _, _, _, _⟩) rfl _ _ rfl g (o + k * 36) rfl tc hrw (by rw [HTL.out]; exact sz_thing) ?_))
            | ((with_reducible refine at_slot 4 ?_); (refine arm_alloc (o := ⟨some 4, _, _, _, _, _⟩) rfl _ rfl zcells z_thing ?_); intro X w4 hXe hR4 hN4)
            | ((with_reducible refine arm_store (o := ⟨none, _, _, _, _, _⟩) rfl _ _ _ rfl X 0 rfl tc rfl _ _ hR4 (by rw [HTL.out, zcells_len]; omega) HT1.out (by rw [HTL.out]; exact sz_thing) ?_); intro w5 hR5 hO5 hS5; have cX34 : w5.cell? ⟨X, 34, none⟩ = some (.slice x.bp x.b.length x.bc) := (hR5.congr (lay_all _ _ (by rw [HTL.out, zcells_len]))).cell H34.out))
          have eX := hXe.out
          go_ret
          exact ⟨⟨true, rfl, fun h => by cases h⟩, below_only (below_step hbel hbel.size hN4.below) hO5 (by have := hbel.size; omega) (Nat.le_trans hbel.size hN4.below.size)⟩
      · obtain rfl : k = l.length := by omega
        go_wp2_with fail
        go_ret
        exact ⟨⟨false, rfl, fun _ => ⟨h1, fun x hx => by
          obtain ⟨i, hi, rfl⟩ := List.getElem_of_mem hx
          have := HA.out i hi
          rwa [List.getD_eq_getElem?_getD, List.getElem?_eq_getElem hi] at this⟩⟩, hbel⟩
  · have hd1 : decide ((100 : Int) < (l.length : Int)) = true := decide_eq_true (by omega)
    go_enter Try.func8, Try.ntmps8
    go_wp2_with fail
    go_ret
    exact ⟨⟨true, rfl, fun h => by cases h⟩, Below.refl _ _⟩
end Go.Proofs.Yticdapgfjkhoaaa.Wi
