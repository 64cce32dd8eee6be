/-
  The contracts of tag.Image over this seat's translation.
-/
import Derived.Test.YtebfdbibeecncaaDoorTagLarge
import Derived.Lib.AppendStr
namespace Go.Proofs.YtebfdbibeecncaaDoor.Tg
open Go.ChangeShapes Go.WideShapes Go.ChangeAt Go.RowKit Go.Proofs.YtebfdbibeecncaaDoor.Mem Go.Proofs.YtebfdbibeecncaaDoor.Bt
set_option linter.unusedVariables false

theorem strCells_u8s (s : ByteArray) : Lib.strCells s = u8s (bytesOf s) := by simp [Lib.strCells, u8s, bytesOf]
section
variable {ops : Array Oper} {rest : List Oper} {o : Oper} {a : Act} {w : World} {Q : Exit → Act → World → Prop}
/-- 'append(s, text...)' onto a slice of the call's own. -/
theorem arm_appendStr (hgd : o.guard = none) (s x : Operand) (ho : o.op = .call { callee := .builtin .append, args := #[s, x], argTypes := #[25, 9] }) (base : Nat) (p : Option Addr) (n cap : Nat) (bs : List Nat) (hn : n = bs.length)
    (hs : a.eval s = .slice p n cap) (hown : Own w base p cap bs) (str : ByteArray) (hx : a.eval x = .string str) (hz : bs.length + str.size ≤ 1000000000) (hb : base ≤ w.heap.size)
    (h : ∀ p' cap' w', Own w' base p' cap' (bs ++ bytesOf str) → Below base w w' → wpList Tryd.prog ops Q rest (a.put o.dst (.slice p' (n + str.size) cap')) w') : wpList Tryd.prog ops Q (o :: rest) a w := by
  subst hn
  have hl : bs.length + str.size = (bs ++ bytesOf str).length := by rw [List.length_append, bytesOf_length]
  rw [hl] at h
  obtain ⟨i0, hi, hz0, hz1, hz2⟩ := info_parts info5
  refine Lib.wpList_append_own_string w hgd s x 25 9 ho base 5 i0 (by kernel_rfl) (by kernel_rfl) hi hz0 hz1 hz2 _ _ _ hs hown.own str hx (by unfold maxLen; omega) (by omega) hb ?_
  intro v' w' hown' hgrow _
  rw [strCells_u8s, ← u8s_append, hl] at hown'
  obtain ⟨p', cap', hv, hO⟩ := Own.of_slice hown'
  rw [hv]
  refine h p' cap' w' hO ⟨hgrow.os, hgrow.tape, hgrow.output, hgrow.size, fun k hk => hgrow.block k (by omega) (fun e => ?_)⟩
  rcases hown.own.2 with ⟨hv0, _⟩ | ⟨g, cap0, cur, hv0, hg, _⟩
  · rw [hv0] at e; cases e
  · rw [hv0] at e
    have : k = g := Option.some.inj e
    omega
end
/-- What Image leaves, where there is an image. -/
structure ImgPost (w : World) (s : ByteArray) (l : List (List Nat)) (e : Ending) (w' : World) : Prop where
  ex : ∃ p cap, e = .returned (.tuple #[.slice p (image (bytesOf s) l).length cap, .int .i64 0]) ∧ Own w' w.heap.size p cap (image (bytesOf s) l)
  bel : Below w.heap.size w w'
structure ImRel (w : World) (hd : List Nat) (l : List (List Nat)) (i v : Value) (wr : World) : Prop where
  ex : ∃ k : Nat, k ≤ l.length ∧ i = .int .i64 k ∧ ∃ p cap, v = .slice p (hd ++ imgs (l.take k)).length cap ∧ Own wr w.heap.size p cap (hd ++ imgs (l.take k))
  bel : Below w.heap.size w wr

set_option maxRecDepth 100000 in
theorem img_long (s : ByteArray) (l : List (List Nat)) (P : Option Addr) (cap : Nat) (w : World) (h : 255 < s.size ∨ 255 < l.length) :
    Calls Tryd.prog 8 #[.string s, .slice P l.length cap] w fun e w' => e = .returned (.tuple #[.slice none 0 0, .int .i64 4]) ∧ w = w' := by
  by_cases h1 : 255 < s.size
  · have hd1 : decide ((255 : Int) < (s.size : Int)) = true := decide_eq_true (by omega)
    go_enter Tryd.func8, Tryd.ntmps8
    go_wp2_with fail
    go_ret2
    exact ⟨rfl, rfl⟩
  · have hd1 : decide ((255 : Int) < (s.size : Int)) = false := decide_eq_false (by omega)
    have hd2 : decide ((255 : Int) < (l.length : Int)) = true := decide_eq_true (by omega)
    go_enter Tryd.func8, Tryd.ntmps8
    go_wp2_with fail
    go_ret2
    exact ⟨rfl, rfl⟩

theorem image_split (s : ByteArray) (l : List (List Nat)) : image (bytesOf s) l = ([s.size] ++ bytesOf s ++ [l.length]) ++ imgs l := by
  unfold image; rw [bytesOf_length]

set_option maxHeartbeats 1000000 in
set_option maxRecDepth 100000 in
theorem img_short (s : ByteArray) (l : List (List Nat)) (P : Option Addr) (capL : Nat) (w : World) (h1 : s.size ≤ 255) (h2 : l.length ≤ 255) (ht : total l ≤ 800000) (hl : Parts w P l) :
    Calls Tryd.prog 8 #[.string s, .slice P l.length capL] w (ImgPost w s l) := by
  have HL := Lib.hid hl; clear hl
  have hd1 : decide ((255 : Int) < (s.size : Int)) = false := decide_eq_false (by omega)
  have hd2 : decide ((255 : Int) < (l.length : Int)) = false := decide_eq_false (by omega)
  have HI := Lib.hid (image_split s l)
  have hbl := bytesOf_length s
  go_enter Tryd.func8, Tryd.ntmps8
  go_wp2_with (first
    | ((with_reducible refine at_slot 21 ?_); (refine arm_buildSlice (o := ⟨some 21, _, _, _, _, _⟩) rfl 1 _ rfl [.int .u8 ((s.size : Nat) : Int)] #[(0, .int .u8 ((s.size : Nat) : Int))] (by simp [Act.eval] <;> omega) (bs1 _) ?_); intro b1 w1 hb1 hR1 hN1; have hs1 : w1.heap.size = w.heap.size + 1 := hN1.size)
    | ((with_reducible refine at_slot 23 ?_); (refine arm_appendStr (o := ⟨some 23, _, _, _, _, _⟩) rfl _ _ rfl w.heap.size _ _ _ [s.size] rfl rfl (own_row (bs := [s.size]) hR1 (by have := hb1.out; omega) (by simp)) s rfl (by simp; omega) (by omega) ?_); intro p2 cap2 w2 hO2 hB2; have hs2 : w1.heap.size ≤ w2.heap.size := hB2.size)
    | ((with_reducible refine at_slot 28 ?_); (refine arm_buildSlice (o := ⟨some 28, _, _, _, _, _⟩) rfl 1 _ rfl [.int .u8 ((l.length : Nat) : Int)] #[(0, .int .u8 ((l.length : Nat) : Int))] (by simp [Act.eval] <;> omega) (bs1 _) ?_); intro b3 w3 hb3 hR3 hN3; have hs3 : w3.heap.size = w2.heap.size + 1 := hN3.size)
    | ((with_reducible refine at_slot 29 ?_); (refine arm_append (o := ⟨some 29, _, _, _, _, _⟩) rfl _ _ rfl w.heap.size _ _ _ ([s.size] ++ bytesOf s) (by simp [hbl]; omega) rfl (hO2.below hN3.below) (some ⟨b3, 0, none⟩) 1 1 [l.length] rfl rfl (fun h => by cases h) (fun _ => ⟨b3, 0, rfl, hR3.range 0 _ (fun j v hj => by rw [Nat.zero_add]; exact hj)⟩) (by simp; omega) (by omega) ?_); intro p4 cap4 w4 hO4 hB4))
  have bel4 : Below w.heap.size w w4 := (((hN1.below.trans hB2).trans (hN3.below.mono (by omega))).trans hB4)
  have hdl : ([s.size] ++ bytesOf s ++ [l.length]).length = 1 + s.size + 1 := by simp [hbl]; omega
  have h0 : ImRel w ([s.size] ++ bytesOf s ++ [l.length]) l (.int .i64 0) (.slice p4 (1 + s.size + 1) cap4) w4 := ⟨⟨0, by omega, rfl, p4, cap4, by rw [← hdl, List.take_zero]; simp [imgs], by rw [List.take_zero]; simpa [imgs] using hO4⟩, bel4⟩
  clear hb1 hR1 hN1 hs1 hO2 hB2 hs2 hb3 hR3 hN3 hs3 hB4 hO4 bel4 w1 w2 w3
  generalize [s.size] ++ bytesOf s ++ [l.length] = hd at HI hdl h0
  go_loopw [32, 6] (fun i v wr => ImRel w hd l i v wr) (fun i _ _ => l.length - (intOf i).toNat)
  case atStart => exact h0
  case round =>
    clear h0
    obtain ⟨⟨k, hk, rfl, p, cap, rfl, hOwn⟩, hbel⟩ := hrel
    have hws : w.heap.size ≤ wr.heap.size := hbel.size
    have hxl : (hd ++ imgs (l.take k)).length ≤ 2000000 := by
      have := total_take_le l k
      rw [List.length_append, imgs_length, List.length_take]; omega
    by_cases hlt : k < l.length
    · obtain ⟨g, o, rfl, hg, hrows⟩ := HL.out.at_ (by omega)
      obtain ⟨q, c, hcell, hcame⟩ := hrows k hlt
      have hcw : wr.cell? ⟨g, o + k, none⟩ = some (.slice q (l.getD k []).length c) := by rw [hbel.cell (p := ⟨g, o + k, none⟩) hg]; exact hcell
      have hbt : (l.getD k []).length ≤ total l := by
        have h1 := total_snoc l k hlt
        have h2 := total_take_le l (k + 1)
        omega
      have HS := Lib.hid (imgs_snoc l k hlt)
      have HC := Lib.hid hcame
      clear hrows hcell hcame
      generalize l.getD k [] = bs at hcw hbt HS HC
      generalize hxs : hd ++ imgs (l.take k) = xs at hOwn hxl ⊢
      have HXS := Lib.hid hxs; clear hxs
      have ik : (k : Int) < (l.length : Int) := by omega
      go_wp2_with (first
        | ((with_reducible refine at_slot 51 ?_); (refine arm_buildSlice (o := ⟨some 51, _, _, _, _, _⟩) rfl 4 _ rfl (u8s (four bs.length)) #[(0, .int .u8 ((bs.length / 16777216 % 256 : Nat) : Int)), (1, .int .u8 ((bs.length / 65536 % 256 : Nat) : Int)), (2, .int .u8 ((bs.length / 256 % 256 : Nat) : Int)), (3, .int .u8 ((bs.length % 256 : Nat) : Int))] (by simp [Act.eval] <;> omega) (bs4 _ _ _ _) ?_); intro b1 w1 hb1 hR1 hN1; have hs1 : w1.heap.size = wr.heap.size + 1 := hN1.size)
        | ((with_reducible refine at_slot 52 ?_); (refine arm_append (o := ⟨some 52, _, _, _, _, _⟩) rfl _ _ rfl w.heap.size _ _ _ xs rfl rfl (hOwn.below hN1.below) (some ⟨b1, 0, none⟩) 4 4 (four bs.length) rfl rfl (fun h => by cases h) (fun _ => ⟨b1, 0, rfl, hR1.range 0 _ (fun j v hj => by rw [Nat.zero_add]; exact hj)⟩) (by rw [four_length]; omega) (by omega) ?_); intro p2 cap2 w2 hO2 hB2; have hs2 : w1.heap.size ≤ w2.heap.size := hB2.size; have bel2 : Below w.heap.size w w2 := (hbel.trans (hN1.below.mono hws)).trans hB2)
        | ((with_reducible refine at_slot 55 ?_); (refine arm_append (o := ⟨some 55, _, _, _, _, _⟩) rfl _ _ rfl w.heap.size _ _ _ (xs ++ four bs.length) (by rw [List.length_append, four_length]) rfl hO2 q bs.length c bs rfl rfl (fun e => ⟨by have h1 := HC.out.nil_ e; have h2 := HC.out.cap_; omega, HC.out.nil_ e⟩) (HC.out.below bel2).at_ (by rw [List.length_append, four_length]; omega) (by omega) ?_); intro p3 cap3 w3 hO3 hB3))
      go_roundw
      case rel => exact ⟨⟨k + 1, by omega, by go_num, p3, cap3, by rw [HS.out, ← HXS.out]; simp only [List.length_append, four_length]; congr 1; omega, by rw [HS.out, ← List.append_assoc, ← List.append_assoc, HXS.out]; exact hO3⟩, bel2.trans hB3⟩
      case measure => simp [intOf]; omega
    · obtain rfl : k = l.length := by omega
      rw [List.take_length] at hOwn
      have HX := Lib.hid (show hd ++ imgs (l.take l.length) = image (bytesOf s) l by rw [HI.out, List.take_length])
      go_wp2_with fail
      go_ret2
      refine ⟨⟨p, cap, ?_, by rw [HI.out]; exact hOwn⟩, hbel⟩
      rw [← HX.out]; rfl
end Go.Proofs.YtebfdbibeecncaaDoor.Tg
