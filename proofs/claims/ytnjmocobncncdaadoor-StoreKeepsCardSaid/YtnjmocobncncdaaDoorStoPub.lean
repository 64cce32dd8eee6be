/-
  The store's functions, told by what is kept in the order of the keys; the states of layer 19's awake. Over this seat's translation.
-/
import Derived.Test.YtnjmocobncncdaaDoorStoOwn
namespace Go.Proofs.YtnjmocobncncdaaDoor.So
open Go.ChangeShapes Go.WideShapes Go.ChangeAt Go.RowKit Go.Proofs.YtnjmocobncncdaaDoor.Mem Go.Proofs.YtnjmocobncncdaaDoor.Bt Go.Proofs.YtnjmocobncncdaaDoor.Km
open Go.Proofs.YtnjmocobncncdaaDoor.Ep (H32 zh zh_ok Has h_len)
open Go.Proofs.YtnjmocobncncdaaDoor.Sha (ks)
open Go.Proofs.YtnjmocobncncdaaDoor.Sa (Sta scs digS digS_ok zs zs_ok)
open Go.Proofs.YtnjmocobncncdaaDoor.Od (Ky kcs keyN keyN_ok kval)
set_option linter.unusedVariables false
set_option linter.unusedSimpArgs false

/-- What is told of a digest. -/
def getS (L : List Sta) (h : List Nat) : Option Sta := L.find? fun y => decide (digS y = h)
theorem get_has {L : List Sta} {h : List Nat} : (getS L h).isSome = hasB h L := by
  unfold getS hasB
  induction L with
  | nil => rfl
  | cons x L ih =>
    rw [List.find?_cons, List.any_cons]
    by_cases e : digS x = h
    · simp [e]
    · rw [decide_eq_false e, Bool.false_or]; exact ih
theorem get_some {L : List Sta} {h : List Nat} {x : Sta} (e : getS L h = some x) : x ∈ L ∧ digS x = h :=
  ⟨List.mem_of_find?_eq_some e, by have := List.find?_some e; exact of_decide_eq_true this⟩
theorem get_none' {L : List Sta} {h : List Nat} (e : getS L h = none) : ∀ y ∈ L, digS y ≠ h := fun y hy q => by
  have := List.find?_eq_none.1 e y hy
  exact this (decide_eq_true q)
theorem put_sok {r : Nat} {pin : Option (List Nat)} {L : List Sta} (k : SOk vK digS r pin L) {x : Sta} (kx : x.Ok) (kL : ∀ y ∈ L, y.Ok) : SOk vK digS r pin (putL r pin x L).1 := by
  unfold putL
  by_cases h : hasB (digS x) L = true
  · rw [if_pos h]; exact k
  · rw [if_neg h]
    exact less_ok (laid_new k (fun q => h (has_true.2 q)) kx kL)
theorem keep_sok {r : Nat} {pin : Option (List Nat)} {L : List Sta} (k : SOk vK digS r pin L) {x : Sta} (kx : x.Ok) (kL : ∀ y ∈ L, y.Ok) : SOk vK digS r (some (digS x)) (putL r (some (digS x)) x L).1 := by
  unfold putL
  by_cases h : hasB (digS x) L = true
  · rw [if_pos h]
    exact ⟨k.up, k.dg, k.len, k.two, fun p hp => by cases hp; exact has_true.1 h⟩
  · rw [if_neg h]
    exact less_ok (laid_pin (laid_new k (fun q => h (has_true.2 q)) kx kL) ⟨x, ins_mem.2 (.inl rfl), rfl⟩)
structure PPost (w : World) (F : Nat → Prop) (S r : Nat) (pin : Option (List Nat)) (q : List Sta × Option Sta) (e : Ending) (w' : World) : Prop where
  ret : e = .returned (.tuple #[.agg (u8s ((q.2.map digS).getD zh)).toArray, .bool q.2.isSome])
  at_ : ∃ F', PAt w' F' S r pin q.1 ∧ Grew F F' w.heap.size
  chg : Chg F w w'
section
variable {F : Nat → Prop} {S r : Nat} {pin : Option (List Nat)} {L : List Sta} {w : World}
theorem pput_any (x : Sta) (hP : PAt w F S r pin L) (kx : x.Ok) (hr : r ≤ 100) (hk : w.rangeAt 0 0 (u32s ks)) :
    Calls Tryd.prog 12 #[.pointer (some ⟨S, 0, none⟩), .agg (scs x).toArray] w (PPost w F S r pin (putL r pin x L)) := by
  have kL := hP.states
  have ok := hP.ok
  obtain ⟨mb, E, hS, hE⟩ := hP.ex
  refine (sputE_any F S r mb pin E L x w hS kx ok.up hE kL ok.len ⟨ok.two, hr⟩ hk).mono fun e w' h => ?_
  obtain ⟨F', E', h1, h2, h3⟩ := h.at_
  exact ⟨h.ret, ⟨F', ⟨⟨mb, E', h1, h2⟩, put_sok ok kx kL⟩, h3⟩, h.chg⟩
theorem pkeep_any (x : Sta) (hP : PAt w F S r pin L) (kx : x.Ok) (hr : r ≤ 100) (hk : w.rangeAt 0 0 (u32s ks)) :
    Calls Tryd.prog 9 #[.pointer (some ⟨S, 0, none⟩), .agg (scs x).toArray] w (PPost w F S r (some (digS x)) (putL r (some (digS x)) x L)) := by
  have kL := hP.states
  have ok := hP.ok
  obtain ⟨mb, E, hS, hE⟩ := hP.ex
  refine (skeepE_any F S r mb pin E L x w hS kx ok.up hE kL ok.len ⟨ok.two, hr⟩ hk).mono fun e w' h => ?_
  obtain ⟨F', E', h1, h2, h3⟩ := h.at_
  exact ⟨h.ret, ⟨F', ⟨⟨mb, E', h1, h2⟩, keep_sok ok kx kL⟩, h3⟩, h.chg⟩
theorem pget_any (h : List Nat) (hh : H32 h) (hP : PAt w F S r pin L) :
    Calls Tryd.prog 11 #[.pointer (some ⟨S, 0, none⟩), .agg (u8s h).toArray] w fun e w' => e = .returned (.tuple #[.agg (scs ((getS L h).getD zs)).toArray, .bool (hasB h L)]) ∧ Below w.heap.size w w' := by
  obtain ⟨mb, E, hS, hE⟩ := hP.ex
  rw [← get_has]
  cases e : getS L h with
  | none => exact sget_none F S r mb pin E h hh w hS fun p hp => get_none' e _ (hE.mem_iff.1 (List.mem_map.2 ⟨p, hp, rfl⟩))
  | some x =>
    obtain ⟨h1, rfl⟩ := get_some e
    obtain ⟨p, hp, rfl⟩ := List.mem_map.1 (hE.mem_iff.2 h1)
    exact sget_some F S r mb pin E p.1 p.2 w hS hp
theorem ppin_any (h : List Nat) (hh : H32 h) (hP : PAt w F S r pin L) :
    Calls Tryd.prog 8 #[.pointer (some ⟨S, 0, none⟩), .agg (u8s h).toArray] w fun e w' => e = .returned (.bool (hasB h L)) ∧ PAt w' F S r (if hasB h L = true then some h else pin) L ∧ Chg F w w' := by
  have ok := hP.ok
  obtain ⟨mb, E, hS, hE⟩ := hP.ex
  by_cases hb : hasB h L = true
  · obtain ⟨p, hp, rfl⟩ := in_has hE hb
    rw [if_pos hb, hb]
    exact (spin_some F S r mb pin E p.1 p.2 w hS hp).mono fun e w' q => ⟨q.ret, ⟨⟨mb, E, q.at_, hE⟩, ⟨ok.up, ok.dg, ok.len, ok.two, fun z hz => by cases hz; exact has_true.1 hb⟩⟩, q.chg⟩
  · rw [if_neg hb, Bool.eq_false_iff.2 hb]
    exact (spin_none F S r mb pin E h hh w hS (no_has hE hb)).mono fun e w' q => ⟨q.ret, ⟨⟨mb, E, q.at_, hE⟩, ok⟩, q.chg⟩
theorem ppinned_any (hP : PAt w F S r pin L) :
    Calls Tryd.prog 10 #[.pointer (some ⟨S, 0, none⟩)] w fun e w' => e = .returned (.tuple #[.agg (u8s (pin.getD zh)).toArray, .bool pin.isSome]) ∧ Below w.heap.size w w' := by
  obtain ⟨mb, E, hS, hE⟩ := hP.ex
  exact spinned_any F S r mb pin E w hS
theorem plen_any (hP : PAt w F S r pin L) :
    Calls Tryd.prog 14 #[.pointer (some ⟨S, 0, none⟩)] w fun e w' => e = .returned (.int .i64 (L.length : Int)) ∧ w = w' := by
  obtain ⟨mb, E, hS, hE⟩ := hP.ex
  rw [← hE.length_eq, List.length_map]
  exact slen_any F S r mb pin E w hS
theorem pkeys_any (hP : PAt w F S r pin L) (hr : r ≤ 100) :
    Calls Tryd.prog 13 #[.pointer (some ⟨S, 0, none⟩)] w (KeysPost w L) := by
  have ok := hP.ok
  obtain ⟨mb, E, hS, hE⟩ := hP.ex
  exact keysE_any F S r mb pin E L w hS ok.up hE (by have := ok.len; omega)
theorem ppin_ok (hP : PAt w F S r pin L) : H32 (pin.getD zh) := by
  obtain ⟨mb, E, hS, hE⟩ := hP.ex
  exact pin_ok' hS.pok
end
def stL (n : Nat) : Sta := ⟨zh, zh, zh, 0, n, 0, 0, 0, [0, 0, 0, 0], Ep.zd, Ep.zd⟩
theorem stL_ok {n : Nat} (h : n < 4294967296) : (stL n).Ok := ⟨zs_ok.prev, zs_ok.led, zs_ok.draw, zs_ok.slot, h, zs_ok.count, zs_ok.min, zs_ok.last, zs_ok.counts, zs_ok.clt, zs_ok.now, zs_ok.next⟩
theorem d5 : (digS (stL 5)).getD 0 0 = 238 := by kernel_rfl
theorem d6 : (digS (stL 6)).getD 0 0 = 83 := by kernel_rfl
theorem d4 : (digS (stL 4)).getD 0 0 = 187 := by kernel_rfl
theorem d1 : (digS (stL 1)).getD 0 0 = 93 := by kernel_rfl
theorem dig_ne {x y : Sta} {m n : Nat} (hx : (digS x).getD 0 0 = m) (hy : (digS y).getD 0 0 = n) (h : m ≠ n) : digS x ≠ digS y := fun e => h (by rw [← hx, ← hy, e])
theorem d56 : digS (stL 5) ≠ digS (stL 6) := dig_ne d5 d6 (by decide)
theorem d54 : digS (stL 5) ≠ digS (stL 4) := dig_ne d5 d4 (by decide)
theorem d64 : digS (stL 6) ≠ digS (stL 4) := dig_ne d6 d4 (by decide)
theorem d51 : digS (stL 5) ≠ digS (stL 1) := dig_ne d5 d1 (by decide)
theorem d61 : digS (stL 6) ≠ digS (stL 1) := dig_ne d6 d1 (by decide)
theorem v_len {m n : Nat} (hm : m < 4294967296) (h : m < n) : vK (stL m) < vK (stL n) := Od.kval_len (keyN_ok (stL_ok hm)) h
theorem v_not {m n : Nat} (hn : n < 4294967296) (h : n < m) : ¬ vK (stL m) < vK (stL n) := fun q => by have := v_len hn h; omega
theorem put1 : putL 2 none (stL 5) [] = ([stL 5], none) := rfl
theorem put2 : putL 2 none (stL 6) [stL 5] = ([stL 5, stL 6], none) := by
  unfold putL hasB
  rw [if_neg (by simp [d56])]
  unfold ins
  rw [if_pos (v_len (by decide) (by decide))]
  rfl
theorem put3 : putL 2 none (stL 4) [stL 5, stL 6] = ([stL 5, stL 6], some (stL 4)) := by
  unfold putL hasB
  rw [if_neg (by simp [d54, d64])]
  unfold ins
  rw [if_neg (v_not (by decide) (by decide))]
  rfl
theorem put4 : putL 2 (some (digS (stL 1))) (stL 1) [stL 5, stL 6] = ([stL 1, stL 6], some (stL 5)) := by
  unfold putL hasB
  rw [if_neg (by simp [d51, d61])]
  unfold ins
  rw [if_neg (v_not (by decide) (by decide))]
  unfold less out
  rw [if_pos (show some (digS (stL 1)) = (List.map digS [stL 1, stL 5, stL 6])[0]? from rfl)]
  rfl
theorem has5 : hasB (digS (stL 5)) [stL 5, stL 6] = true := by unfold hasB; simp
theorem has4 : hasB (digS (stL 4)) [stL 1, stL 6] = false := by
  have h1 : digS (stL 1) ≠ digS (stL 4) := dig_ne d1 d4 (by decide)
  unfold hasB
  simp [d64, h1]
theorem get5 : (getS [stL 5, stL 6] (digS (stL 5))).getD zs = stL 5 := by unfold getS; simp
end Go.Proofs.YtnjmocobncncdaaDoor.So
