import Derived.Test.YtnjmocobncncdaaGreatDoorBytAll
import Derived.Test.YtnjmocobncncdaaGreatDoorShaAll
import Derived.Lib.AppendStr
import Derived.Test.YtnjmocobncncdaaGreatDoorShaRefAll
/-
  The image of a name and parts, over lists of numbers; unlike names, or parts, have unlike images.
-/
namespace Go.Proofs.YtnjmocobncncdaaGreatDoor.Tg
open Go.Proofs.YtnjmocobncncdaaGreatDoor.Bt

/-- A number's four bytes, the highest first. -/
def four (n : Nat) : List Nat := [n / 16777216 % 256, n / 65536 % 256, n / 256 % 256, n % 256]
def imgs : List (List Nat) → List Nat
  | [] => []
  | b :: r => four b.length ++ (b ++ imgs r)
/-- The image. -/
def image (name : List Nat) (parts : List (List Nat)) : List Nat := [name.length] ++ name ++ [parts.length] ++ imgs parts
def total : List (List Nat) → Nat
  | [] => 0
  | b :: r => b.length + total r
theorem imgs_append : ∀ l m : List (List Nat), imgs (l ++ m) = imgs l ++ imgs m
  | [], m => rfl
  | b :: r, m => by simp [imgs, imgs_append r m]
theorem total_append : ∀ l m : List (List Nat), total (l ++ m) = total l + total m
  | [], m => by simp [total]
  | b :: r, m => by simp [total, total_append r m]; omega
theorem four_length (n : Nat) : (four n).length = 4 := rfl
theorem four_lt (n : Nat) : AllLt 256 (four n) := by intro x hx; simp [four] at hx; omega
theorem imgs_length : ∀ l : List (List Nat), (imgs l).length = 4 * l.length + total l
  | [] => rfl
  | b :: r => by simp [imgs, four_length, imgs_length r, total]; omega
theorem imgs_lt : ∀ l : List (List Nat), (∀ b ∈ l, AllLt 256 b) → AllLt 256 (imgs l)
  | [], _ => by intro x hx; cases hx
  | b :: r, h => append_lt (four_lt _) (append_lt (h b (by simp)) (imgs_lt r fun c hc => h c (by simp [hc])))
theorem image_length (name : List Nat) (parts : List (List Nat)) : (image name parts).length = 2 + name.length + 4 * parts.length + total parts := by
  simp [image, imgs_length]; omega
theorem image_lt (name : List Nat) (parts : List (List Nat)) (hn : name.length ≤ 255) (hp : parts.length ≤ 255) (h1 : AllLt 256 name) (h2 : ∀ b ∈ parts, AllLt 256 b) : AllLt 256 (image name parts) := by
  refine append_lt (append_lt (append_lt ?_ h1) ?_) (imgs_lt _ h2)
  · intro x hx; simp at hx; omega
  · intro x hx; simp at hx; omega
theorem take_snoc (l : List (List Nat)) (k : Nat) (h : k < l.length) : l.take (k + 1) = l.take k ++ [l.getD k []] := by
  rw [List.take_add_one, List.getElem?_eq_getElem h]
  simp [List.getD_eq_getElem?_getD, List.getElem?_eq_getElem h]
theorem total_take_le (l : List (List Nat)) (k : Nat) : total (l.take k) ≤ total l := by
  have := total_append (l.take k) (l.drop k)
  rw [List.take_append_drop] at this
  omega
theorem total_snoc (l : List (List Nat)) (k : Nat) (h : k < l.length) : total (l.take (k + 1)) = total (l.take k) + (l.getD k []).length := by
  rw [take_snoc l k h, total_append]; simp [total]
theorem imgs_snoc (l : List (List Nat)) (k : Nat) (h : k < l.length) : imgs (l.take (k + 1)) = imgs (l.take k) ++ four (l.getD k []).length ++ l.getD k [] := by
  rw [take_snoc l k h, imgs_append]; simp [imgs]
/-- A text's bytes. -/
def bytesOf (s : ByteArray) : List Nat := s.data.toList.map fun b => b.toNat
theorem bytesOf_length (s : ByteArray) : (bytesOf s).length = s.size := by simp [bytesOf]
theorem bytesOf_lt (s : ByteArray) : AllLt 256 (bytesOf s) := by
  intro x hx
  simp only [bytesOf, List.mem_map] at hx
  obtain ⟨b, _, rfl⟩ := hx
  exact b.toNat_lt
end Go.Proofs.YtnjmocobncncdaaGreatDoor.Tg

/-
  Parts that came in.
-/
namespace Go.Proofs.YtnjmocobncncdaaGreatDoor.Tg
open Go.ChangeShapes Go.WideShapes Go.ChangeAt Go.RowKit Go.Proofs.YtnjmocobncncdaaGreatDoor.Mem Go.Proofs.YtnjmocobncncdaaGreatDoor.Bt
set_option linter.unusedVariables false

/-- Rows of bytes that came in. -/
structure Parts (w : World) (P : Option Addr) (l : List (List Nat)) : Prop where
  at_ : 0 < l.length → ∃ g o, P = some ⟨g, o, none⟩ ∧ g < w.heap.size ∧ ∀ i, i < l.length → ∃ p cap, w.cell? ⟨g, o + i, none⟩ = some (.slice p (l.getD i []).length cap) ∧ Came w p cap (l.getD i [])
theorem Parts.below {w w' : World} {P : Option Addr} {l : List (List Nat)} (h : Parts w P l) (hb : Below w.heap.size w w') : Parts w' P l :=
  ⟨fun hn => by
    obtain ⟨g, o, e, hg, hr⟩ := h.at_ hn
    refine ⟨g, o, e, Nat.lt_of_lt_of_le hg hb.size, fun i hi => ?_⟩
    obtain ⟨p, cap, hc, hcame⟩ := hr i hi
    exact ⟨p, cap, by rw [hb.cell (p := ⟨g, o + i, none⟩) hg]; exact hc, hcame.below hb⟩⟩
theorem Parts.lt {w : World} {P : Option Addr} {l : List (List Nat)} (h : Parts w P l) : ∀ b ∈ l, AllLt 256 b := by
  intro b hb
  obtain ⟨i, hi, rfl⟩ := List.getElem_of_mem hb
  obtain ⟨g, o, e, hg, hr⟩ := h.at_ (by omega)
  obtain ⟨p, cap, hc, hcame⟩ := hr i hi
  have := hcame.lt_
  rwa [List.getD_eq_getElem?_getD, List.getElem?_eq_getElem hi] at this

end Go.Proofs.YtnjmocobncncdaaGreatDoor.Tg

/-
  The contracts of layer 3's large and of the document's Four, over this seat's translation.
-/
namespace Go.Proofs.YtnjmocobncncdaaGreatDoor.Tg
open Go.ChangeShapes Go.WideShapes Go.ChangeAt Go.RowKit Go.Proofs.YtnjmocobncncdaaGreatDoor.Mem Go.Proofs.YtnjmocobncncdaaGreatDoor.Bt
set_option linter.unusedVariables false

theorem bs4 (a b c d : Int) (w : World) : (Instr.buildSlice 80 4 #[(0, .int .u8 a), (1, .int .u8 b), (2, .int .u8 c), (3, .int .u8 d)]).run Tryz.prog w = .ok (.slice (some ⟨w.heap.size, 0, none⟩) 4 4) (w.alloc (.cells #[.int .u8 a, .int .u8 b, .int .u8 c, .int .u8 d] 5)) := by kernel_rfl
/-- What Four leaves. -/
structure FourPost (w : World) (n : Nat) (e : Ending) (w' : World) : Prop where
  ex : ∃ b, e = .returned (.slice (some ⟨b, 0, none⟩) 4 4) ∧ Row w' b 5 (u8s (four n))
  new : New w w'
set_option maxRecDepth 100000 in
theorem four_any (n : Nat) (w : World) (hn : n ≤ 2000000) : Calls Tryz.prog 69 #[.int .i64 (n : Int)] w (FourPost w n) := by
  go_enter Tryz.func69, Tryz.ntmps69
  go_wp2_with (first
    | ((refine arm_buildSlice (o := ⟨some 18, _, _, _, _, _⟩) rfl 4 _ rfl (u8s (four n)) #[(0, .int .u8 ((n / 16777216 % 256 : Nat) : Int)), (1, .int .u8 ((n / 65536 % 256 : Nat) : Int)), (2, .int .u8 ((n / 256 % 256 : Nat) : Int)), (3, .int .u8 ((n % 256 : Nat) : Int))] (by simp [Act.eval] <;> omega) (bs4 _ _ _ _) ?_); intro b1 w1 hb1 hR1 hN1))
  go_ret
  exact ⟨⟨b1, rfl, hR1⟩, hN1⟩
end Go.Proofs.YtnjmocobncncdaaGreatDoor.Tg

/-
  The contracts of tag.Image over this seat's translation.
-/
namespace Go.Proofs.YtnjmocobncncdaaGreatDoor.Tg
open Go.ChangeShapes Go.WideShapes Go.ChangeAt Go.RowKit Go.Proofs.YtnjmocobncncdaaGreatDoor.Mem Go.Proofs.YtnjmocobncncdaaGreatDoor.Bt
set_option linter.unusedVariables false

theorem strCells_u8s (s : ByteArray) : Lib.strCells s = u8s (bytesOf s) := by simp [Lib.strCells, u8s, bytesOf]
section
variable {ops : Array Oper} {rest : List Oper} {o : Oper} {a : Act} {w : World} {Q : Exit → Act → World → Prop}
/-- 'append(s, text...)' onto a slice of the call's own. -/
theorem arm_appendStr (hgd : o.guard = none) (s x : Operand) (ho : o.op = .call { callee := .builtin .append, args := #[s, x], argTypes := #[80, 9] }) (base : Nat) (p : Option Addr) (n cap : Nat) (bs : List Nat) (hn : n = bs.length)
    (hs : a.eval s = .slice p n cap) (hown : Own w base p cap bs) (str : ByteArray) (hx : a.eval x = .string str) (hz : bs.length + str.size ≤ 1000000000) (hb : base ≤ w.heap.size)
    (h : ∀ p' cap' w', Own w' base p' cap' (bs ++ bytesOf str) → Below base w w' → wpList Tryz.prog ops Q rest (a.put o.dst (.slice p' (n + str.size) cap')) w') : wpList Tryz.prog ops Q (o :: rest) a w := by
  subst hn
  have hl : bs.length + str.size = (bs ++ bytesOf str).length := by rw [List.length_append, bytesOf_length]
  rw [hl] at h
  obtain ⟨i0, hi, hz0, hz1, hz2⟩ := info_parts info5
  refine Lib.wpList_append_own_string w hgd s x 80 9 ho base 5 i0 (by kernel_rfl) (by kernel_rfl) hi hz0 hz1 hz2 _ _ _ hs hown.own str hx (by unfold maxLen; omega) (by omega) hb ?_
  intro v' w' hown' hgrow _
  rw [strCells_u8s, ← u8s_append, hl] at hown'
  obtain ⟨p', cap', hv, hO⟩ := Own.of_slice hown'
  rw [hv]
  refine h p' cap' w' hO ⟨hgrow.os, hgrow.tape, hgrow.output, hgrow.size, fun k hk => hgrow.block k (by omega) (fun e => ?_)⟩
  rcases hown.own.2 with ⟨hv0, _⟩ | ⟨g, cap0, cur, hv0, hg, _⟩
  · rw [hv0] at e; cases e
  · rw [hv0] at e
    have : k = g := Option.some.inj e
    omega
end
/-- What Image leaves, where there is an image. -/
structure ImgPost (w : World) (s : ByteArray) (l : List (List Nat)) (e : Ending) (w' : World) : Prop where
  ex : ∃ p cap, e = .returned (.tuple #[.slice p (image (bytesOf s) l).length cap, .int .i64 0]) ∧ Own w' w.heap.size p cap (image (bytesOf s) l)
  bel : Below w.heap.size w w'
structure ImRel (w : World) (hd : List Nat) (l : List (List Nat)) (i v : Value) (wr : World) : Prop where
  ex : ∃ k : Nat, k ≤ l.length ∧ i = .int .i64 k ∧ ∃ p cap, v = .slice p (hd ++ imgs (l.take k)).length cap ∧ Own wr w.heap.size p cap (hd ++ imgs (l.take k))
  bel : Below w.heap.size w wr

set_option maxRecDepth 100000 in
theorem img_long (s : ByteArray) (l : List (List Nat)) (P : Option Addr) (cap : Nat) (w : World) (h : 255 < s.size ∨ 255 < l.length) :
    Calls Tryz.prog 44 #[.string s, .slice P l.length cap] w fun e w' => e = .returned (.tuple #[.slice none 0 0, .int .i64 4]) ∧ w = w' := by
  by_cases h1 : 255 < s.size
  · have hd1 : decide ((255 : Int) < (s.size : Int)) = true := decide_eq_true (by omega)
    go_enter Tryz.func44, Tryz.ntmps44
    go_wp2_with fail
    go_ret2
    exact ⟨rfl, rfl⟩
  · have hd1 : decide ((255 : Int) < (s.size : Int)) = false := decide_eq_false (by omega)
    have hd2 : decide ((255 : Int) < (l.length : Int)) = true := decide_eq_true (by omega)
    go_enter Tryz.func44, Tryz.ntmps44
    go_wp2_with fail
    go_ret2
    exact ⟨rfl, rfl⟩

theorem image_split (s : ByteArray) (l : List (List Nat)) : image (bytesOf s) l = ([s.size] ++ bytesOf s ++ [l.length]) ++ imgs l := by
  unfold image; rw [bytesOf_length]

set_option maxHeartbeats 1000000 in
set_option maxRecDepth 100000 in
theorem img_short (s : ByteArray) (l : List (List Nat)) (P : Option Addr) (capL : Nat) (w : World) (h1 : s.size ≤ 255) (h2 : l.length ≤ 255) (ht : total l ≤ 800000) (hl : Parts w P l) :
    Calls Tryz.prog 44 #[.string s, .slice P l.length capL] w (ImgPost w s l) := by
  have HL := Lib.hid hl; clear hl
  have hd1 : decide ((255 : Int) < (s.size : Int)) = false := decide_eq_false (by omega)
  have hd2 : decide ((255 : Int) < (l.length : Int)) = false := decide_eq_false (by omega)
  have HI := Lib.hid (image_split s l)
  have hbl := bytesOf_length s
  go_enter Tryz.func44, Tryz.ntmps44
  go_wp2_with (first
    | ((with_reducible refine at_slot 21 ?_); (refine arm_buildSlice (o := ⟨some 21, _, _, _, _, _⟩) rfl 1 _ rfl [.int .u8 ((s.size : Nat) : Int)] #[(0, .int .u8 ((s.size : Nat) : Int))] (by simp [Act.eval] <;> omega) (bs1 _) ?_); intro b1 w1 hb1 hR1 hN1; have hs1 : w1.heap.size = w.heap.size + 1 := hN1.size)
    | ((with_reducible refine at_slot 23 ?_); (refine arm_appendStr (o := ⟨some 23, _, _, _, _, _⟩) rfl _ _ rfl w.heap.size _ _ _ [s.size] rfl rfl (own_row (bs := [s.size]) hR1 (by have := hb1.out; omega) (by simp)) s rfl (by simp; omega) (by omega) ?_); intro p2 cap2 w2 hO2 hB2; have hs2 : w1.heap.size ≤ w2.heap.size := hB2.size)
    | ((with_reducible refine at_slot 28 ?_); (refine arm_buildSlice (o := ⟨some 28, _, _, _, _, _⟩) rfl 1 _ rfl [.int .u8 ((l.length : Nat) : Int)] #[(0, .int .u8 ((l.length : Nat) : Int))] (by simp [Act.eval] <;> omega) (bs1 _) ?_); intro b3 w3 hb3 hR3 hN3; have hs3 : w3.heap.size = w2.heap.size + 1 := hN3.size)
    | ((with_reducible refine at_slot 29 ?_); (refine arm_append (o := ⟨some 29, _, _, _, _, _⟩) rfl _ _ rfl w.heap.size _ _ _ ([s.size] ++ bytesOf s) (by simp [hbl]; omega) rfl (hO2.below hN3.below) (some ⟨b3, 0, none⟩) 1 1 [l.length] rfl rfl (fun h => by cases h) (fun _ => ⟨b3, 0, rfl, hR3.range 0 _ (fun j v hj => by rw [Nat.zero_add]; exact hj)⟩) (by simp; omega) (by omega) ?_); intro p4 cap4 w4 hO4 hB4))
  have bel4 : Below w.heap.size w w4 := (((hN1.below.trans hB2).trans (hN3.below.mono (by omega))).trans hB4)
  have hdl : ([s.size] ++ bytesOf s ++ [l.length]).length = 1 + s.size + 1 := by simp [hbl]; omega
  have h0 : ImRel w ([s.size] ++ bytesOf s ++ [l.length]) l (.int .i64 0) (.slice p4 (1 + s.size + 1) cap4) w4 := ⟨⟨0, by omega, rfl, p4, cap4, by rw [← hdl, List.take_zero]; simp [imgs], by rw [List.take_zero]; simpa [imgs] using hO4⟩, bel4⟩
  clear hb1 hR1 hN1 hs1 hO2 hB2 hs2 hb3 hR3 hN3 hs3 hB4 hO4 bel4 w1 w2 w3
  generalize [s.size] ++ bytesOf s ++ [l.length] = hd at HI hdl h0
  go_loopw [32, 6] (fun i v wr => ImRel w hd l i v wr) (fun i _ _ => l.length - (intOf i).toNat)
  case atStart => exact h0
  case round =>
    clear h0
    obtain ⟨⟨k, hk, rfl, p, cap, rfl, hOwn⟩, hbel⟩ := hrel
    have hws : w.heap.size ≤ wr.heap.size := hbel.size
    have hxl : (hd ++ imgs (l.take k)).length ≤ 2000000 := by
      have := total_take_le l k
      rw [List.length_append, imgs_length, List.length_take]; omega
    by_cases hlt : k < l.length
    · obtain ⟨g, o, rfl, hg, hrows⟩ := HL.out.at_ (by omega)
      obtain ⟨q, c, hcell, hcame⟩ := hrows k hlt
      have hcw : wr.cell? ⟨g, o + k, none⟩ = some (.slice q (l.getD k []).length c) := by rw [hbel.cell (p := ⟨g, o + k, none⟩) hg]; exact hcell
      have hbt : (l.getD k []).length ≤ total l := by
        have h1 := total_snoc l k hlt
        have h2 := total_take_le l (k + 1)
        omega
      have HS := Lib.hid (imgs_snoc l k hlt)
      have HC := Lib.hid hcame
      clear hrows hcell hcame
      generalize l.getD k [] = bs at hcw hbt HS HC
      generalize hxs : hd ++ imgs (l.take k) = xs at hOwn hxl ⊢
      have HXS := Lib.hid hxs; clear hxs
      have ik : (k : Int) < (l.length : Int) := by omega
      go_wp2_with (first
        | ((with_reducible refine at_slot 51 ?_); (refine arm_buildSlice (o := ⟨some 51, _, _, _, _, _⟩) rfl 4 _ rfl (u8s (four bs.length)) #[(0, .int .u8 ((bs.length / 16777216 % 256 : Nat) : Int)), (1, .int .u8 ((bs.length / 65536 % 256 : Nat) : Int)), (2, .int .u8 ((bs.length / 256 % 256 : Nat) : Int)), (3, .int .u8 ((bs.length % 256 : Nat) : Int))] (by simp [Act.eval] <;> omega) (bs4 _ _ _ _) ?_); intro b1 w1 hb1 hR1 hN1; have hs1 : w1.heap.size = wr.heap.size + 1 := hN1.size)
        | ((with_reducible refine at_slot 52 ?_); (refine arm_append (o := ⟨some 52, _, _, _, _, _⟩) rfl _ _ rfl w.heap.size _ _ _ xs rfl rfl (hOwn.below hN1.below) (some ⟨b1, 0, none⟩) 4 4 (four bs.length) rfl rfl (fun h => by cases h) (fun _ => ⟨b1, 0, rfl, hR1.range 0 _ (fun j v hj => by rw [Nat.zero_add]; exact hj)⟩) (by rw [four_length]; omega) (by omega) ?_); intro p2 cap2 w2 hO2 hB2; have hs2 : w1.heap.size ≤ w2.heap.size := hB2.size; have bel2 : Below w.heap.size w w2 := (hbel.trans (hN1.below.mono hws)).trans hB2)
        | ((with_reducible refine at_slot 55 ?_); (refine arm_append (o := ⟨some 55, _, _, _, _, _⟩) rfl _ _ rfl w.heap.size _ _ _ (xs ++ four bs.length) (by rw [List.length_append, four_length]) rfl hO2 q bs.length c bs rfl rfl (fun e => ⟨by have h1 := HC.out.nil_ e; have h2 := HC.out.cap_; omega, HC.out.nil_ e⟩) (HC.out.below bel2).at_ (by rw [List.length_append, four_length]; omega) (by omega) ?_); intro p3 cap3 w3 hO3 hB3))
      go_roundw
      case rel => exact ⟨⟨k + 1, by omega, by go_num, p3, cap3, by rw [HS.out, ← HXS.out]; simp only [List.length_append, four_length]; congr 1; omega, by rw [HS.out, ← List.append_assoc, ← List.append_assoc, HXS.out]; exact hO3⟩, bel2.trans hB3⟩
      case measure => simp [intOf]; omega
    · obtain rfl : k = l.length := by omega
      rw [List.take_length] at hOwn
      have HX := Lib.hid (show hd ++ imgs (l.take l.length) = image (bytesOf s) l by rw [HI.out, List.take_length])
      go_wp2_with fail
      go_ret2
      refine ⟨⟨p, cap, ?_, by rw [HI.out]; exact hOwn⟩, hbel⟩
      rw [← HX.out]; rfl
end Go.Proofs.YtnjmocobncncdaaGreatDoor.Tg

/-
  The contracts of the document's Image over this seat's translation.
-/
namespace Go.Proofs.YtnjmocobncncdaaGreatDoor.Tg
open Go.ChangeShapes Go.WideShapes Go.ChangeAt Go.RowKit Go.Proofs.YtnjmocobncncdaaGreatDoor.Mem Go.Proofs.YtnjmocobncncdaaGreatDoor.Bt
set_option linter.unusedVariables false

theorem bytesOf_get (s : ByteArray) (k : Nat) (h : k < s.size) : ((s[k]'h).toNat : Nat) = (bytesOf s).getD k 0 := by
  have hk : k < s.data.toList.length := by simpa using h
  unfold bytesOf
  rw [List.getD_eq_getElem?_getD, List.getElem?_map, List.getElem?_eq_getElem hk]
  rfl
section
variable {ops : Array Oper} {rest : List Oper} {o : Oper} {a : Act} {w : World} {Q : Exit → Act → World → Prop}
/-- One byte of a text. -/
theorem arm_indexStr (hgd : o.guard = none) (x ix : Operand) (ho : o.op = .index 9 x ix) (s : ByteArray) (hx : a.eval x = .string s) (kk : IntKind) (k : Nat) (hi : a.eval ix = .int kk (k : Int)) (hk : k < s.size)
    (h : wpList Tryz.prog ops Q rest (a.put o.dst (.int .u8 (((bytesOf s).getD k 0 : Nat) : Int))) w) : wpList Tryz.prog ops Q (o :: rest) a w := by
  refine wpList_plain hgd fun K hK => ?_
  have hr := run_index_string (P := Tryz.prog) w 9 s kk (k : Int) (by kernel_rfl)
  rw [dif_pos (by omega)] at hr
  have e : ((s[((k : Int)).toNat]'(by omega)).toNat : Int) = (((bytesOf s).getD k 0 : Nat) : Int) := by
    rw [← bytesOf_get s k hk]; rfl
  rw [e] at hr
  unfold Oper.wp execOp
  simp only [ho, hx, hi, Sem.run_bind, hr, Result.andThen_ok, Sem.run_pure]
  exact hK _ _ h
end
set_option maxRecDepth 100000 in
theorem rimg_long (s : ByteArray) (l : List (List Nat)) (P : Option Addr) (cap : Nat) (w : World) (h : 255 < s.size ∨ 255 < l.length) :
    Calls Tryz.prog 50 #[.string s, .slice P l.length cap] w fun e w' => e = .returned (.tuple #[.slice none 0 0, .int .i64 4]) ∧ w = w' := by
  by_cases h1 : 255 < s.size
  · have hd1 : decide ((255 : Int) < (s.size : Int)) = true := decide_eq_true (by omega)
    go_enter Tryz.func50, Tryz.ntmps50
    go_wp2_with fail
    go_ret2
    exact ⟨rfl, rfl⟩
  · have hd1 : decide ((255 : Int) < (s.size : Int)) = false := decide_eq_false (by omega)
    have hd2 : decide ((255 : Int) < (l.length : Int)) = true := decide_eq_true (by omega)
    go_enter Tryz.func50, Tryz.ntmps50
    go_wp2_with fail
    go_ret2
    exact ⟨rfl, rfl⟩
/-- What holds in the loop over the name. -/
structure NmRel (w : World) (s : ByteArray) (i v : Value) (wr : World) : Prop where
  ex : ∃ k : Nat, k ≤ s.size ∧ i = .int .i64 k ∧ ∃ p cap, v = .slice p (1 + k) cap ∧ Own wr w.heap.size p cap ([s.size] ++ (bytesOf s).take k)
  bel : Below w.heap.size w wr
theorem bytes_snoc (s : ByteArray) (k : Nat) (h : k < s.size) : (bytesOf s).take (k + 1) = (bytesOf s).take k ++ [(bytesOf s).getD k 0] := by
  have hk : k < (bytesOf s).length := by rw [bytesOf_length]; exact h
  rw [List.take_add_one, List.getElem?_eq_getElem hk]
  simp [List.getD_eq_getElem?_getD, List.getElem?_eq_getElem hk]

set_option maxHeartbeats 1000000 in
set_option maxRecDepth 100000 in
theorem rimg_short (s : ByteArray) (l : List (List Nat)) (P : Option Addr) (capL : Nat) (w : World) (h1 : s.size ≤ 255) (h2 : l.length ≤ 255) (ht : total l ≤ 800000) (hl : Parts w P l) :
    Calls Tryz.prog 50 #[.string s, .slice P l.length capL] w (ImgPost w s l) := by
  have HL := Lib.hid hl; clear hl
  have hd1 : decide ((255 : Int) < (s.size : Int)) = false := decide_eq_false (by omega)
  have hd2 : decide ((255 : Int) < (l.length : Int)) = false := decide_eq_false (by omega)
  have HI := Lib.hid (image_split s l)
  have hbl := bytesOf_length s
  go_enter Tryz.func50, Tryz.ntmps50
  go_wp2_with (first
    | ((with_reducible refine at_slot 20 ?_); (refine arm_buildSlice (o := ⟨some 20, _, _, _, _, _⟩) rfl 1 _ rfl [.int .u8 ((s.size : Nat) : Int)] #[(0, .int .u8 ((s.size : Nat) : Int))] (by simp [Act.eval] <;> omega) (bs1 _) ?_); intro b1 w1 hb1 hR1 hN1; have hs1 : w1.heap.size = w.heap.size + 1 := hN1.size))
  have h0 : NmRel w s (.int .i64 0) (.slice (some ⟨b1, 0, none⟩) 1 1) w1 := ⟨⟨0, by omega, rfl, some ⟨b1, 0, none⟩, 1, rfl, own_row (bs := [s.size]) hR1 (by have := hb1.out; omega) (by simp)⟩, hN1.below⟩
  clear hb1 hR1 hN1 hs1
  go_loopw [7, 6] (fun i v wr => NmRel w s i v wr) (fun i _ _ => s.size - (intOf i).toNat)
  case atStart => exact h0
  case round =>
    clear h0 w1
    obtain ⟨⟨k, hk, rfl, p, cap, rfl, hOwn⟩, hbel⟩ := hrel
    have hws : w.heap.size ≤ wr.heap.size := hbel.size
    by_cases hlt : k < s.size
    · have ik : (k : Int) < (s.size : Int) := by omega
      have HS := Lib.hid (bytes_snoc s k hlt)
      have hxl : ([s.size] ++ (bytesOf s).take k).length = 1 + k := by simp [hbl]; omega
      generalize hxs : [s.size] ++ (bytesOf s).take k = xs at hOwn hxl
      have HXS := Lib.hid hxs; clear hxs
      generalize hyy : (bytesOf s).getD k 0 = y at HS
      have HY := Lib.hid hyy; clear hyy
      go_wp2_with (first
        | ((with_reducible refine at_slot 30 ?_); (refine arm_indexStr (o := ⟨some 30, _, _, _, _, _⟩) rfl _ _ rfl s rfl .i64 k rfl hlt ?_); rw [HY.out])
        | ((with_reducible refine at_slot 31 ?_); (refine arm_buildSlice (o := ⟨some 31, _, _, _, _, _⟩) rfl 1 _ rfl [.int .u8 ((y : Nat) : Int)] #[(0, .int .u8 ((y : Nat) : Int))] (by simp [Act.eval, Act.put]) (bs1 _) ?_); intro b2 w2 hb2 hR2 hN2; have hs2 : w2.heap.size = wr.heap.size + 1 := hN2.size)
        | ((with_reducible refine at_slot 32 ?_); (refine arm_append (o := ⟨some 32, _, _, _, _, _⟩) rfl _ _ rfl w.heap.size _ _ _ xs hxl.symm rfl (hOwn.below hN2.below) (some ⟨b2, 0, none⟩) 1 1 [y] rfl rfl (fun h => by cases h) (fun _ => ⟨b2, 0, rfl, hR2.range 0 _ (fun j v hj => by rw [Nat.zero_add]; exact hj)⟩) (by simp; omega) (by omega) ?_); intro p3 cap3 w3 hO3 hB3))
      go_roundw
      case rel => exact ⟨⟨k + 1, by omega, by go_num, p3, cap3, by rw [Nat.add_assoc], by rw [HS.out, ← List.append_assoc, HXS.out]; exact hO3⟩, (hbel.trans (hN2.below.mono hws)).trans hB3⟩
      case measure => simp [intOf]; omega
    · obtain rfl : k = s.size := by omega
      rw [List.take_of_length_le (by rw [hbl]; omega)] at hOwn
      go_wp2_with (first
        | ((with_reducible refine at_slot 37 ?_); (refine arm_buildSlice (o := ⟨some 37, _, _, _, _, _⟩) rfl 1 _ rfl [.int .u8 ((l.length : Nat) : Int)] #[(0, .int .u8 ((l.length : Nat) : Int))] (by simp [Act.eval] <;> omega) (bs1 _) ?_); intro b3 w3 hb3 hR3 hN3; have hs3 : w3.heap.size = wr.heap.size + 1 := hN3.size)
        | ((with_reducible refine at_slot 38 ?_); (refine arm_append (o := ⟨some 38, _, _, _, _, _⟩) rfl _ _ rfl w.heap.size _ _ _ ([s.size] ++ bytesOf s) (by simp [hbl]; omega) rfl (hOwn.below hN3.below) (some ⟨b3, 0, none⟩) 1 1 [l.length] rfl rfl (fun h => by cases h) (fun _ => ⟨b3, 0, rfl, hR3.range 0 _ (fun j v hj => by rw [Nat.zero_add]; exact hj)⟩) (by simp; omega) (by omega) ?_); intro p4 cap4 w4 hO4 hB4))
      have bel4 : Below w.heap.size w w4 := (hbel.trans (hN3.below.mono hws)).trans hB4
      have hdl : ([s.size] ++ bytesOf s ++ [l.length]).length = 1 + s.size + 1 := by simp [hbl]; omega
      have h0 : ImRel w ([s.size] ++ bytesOf s ++ [l.length]) l (.int .i64 0) (.slice p4 (1 + s.size + 1) cap4) w4 := ⟨⟨0, by omega, rfl, p4, cap4, by rw [← hdl, List.take_zero]; simp [imgs], by rw [List.take_zero]; simpa [imgs] using hO4⟩, bel4⟩
      clear hOwn hbel hws hk hlt hb3 hR3 hN3 hs3 hB4 hO4 bel4 w3 
      generalize [s.size] ++ bytesOf s ++ [l.length] = hd at HI hdl h0
      go_loopw [8, 6] (fun i v wr => ImRel w hd l i v wr) (fun i _ _ => l.length - (intOf i).toNat)
      case atStart => exact h0
      case round =>
        clear h0
        obtain ⟨⟨k, hk, rfl, p, cap, rfl, hOwn⟩, hbel⟩ := hrel
        have hws : w.heap.size ≤ wr.heap.size := hbel.size
        have hxl : (hd ++ imgs (l.take k)).length ≤ 2000000 := by
          have := total_take_le l k
          rw [List.length_append, imgs_length, List.length_take]; omega
        by_cases hlt : k < l.length
        · obtain ⟨g, o, rfl, hg, hrows⟩ := HL.out.at_ (by omega)
          obtain ⟨q, c, hcell, hcame⟩ := hrows k hlt
          have hcw : ∀ w', Below w.heap.size w w' → w'.cell? ⟨g, o + k, none⟩ = some (.slice q (l.getD k []).length c) := fun w' hb => by rw [hb.cell (p := ⟨g, o + k, none⟩) hg]; exact hcell
          have hbt : (l.getD k []).length ≤ total l := by
            have h1 := total_snoc l k hlt
            have h2 := total_take_le l (k + 1)
            omega
          have HS := Lib.hid (imgs_snoc l k hlt)
          have HC := Lib.hid hcame
          clear hrows hcell hcame
          generalize l.getD k [] = bs at hcw hbt HS HC
          generalize hxs : hd ++ imgs (l.take k) = xs at hOwn hxl ⊢
          have HXS := Lib.hid hxs; clear hxs
          have ik : (k : Int) < (l.length : Int) := by omega
          have hc0 := hcw wr hbel
          have HCW := Lib.hid hcw; clear hcw
          go_wp2_with fail
          refine (four_any bs.length wr (by omega)).mono ?_
          rintro e w1 ⟨⟨b1, rfl, hR1⟩, hN1⟩
          have hs1 : w1.heap.size = wr.heap.size + 1 := hN1.size
          go_wp2_with (first
            | ((with_reducible refine at_slot 52 ?_); (refine arm_append (o := ⟨some 52, _, _, _, _, _⟩) rfl _ _ rfl w.heap.size _ _ _ xs rfl rfl (hOwn.below hN1.below) (some ⟨b1, 0, none⟩) 4 4 (four bs.length) rfl rfl (fun h => by cases h) (fun _ => ⟨b1, 0, rfl, hR1.range 0 _ (fun j v hj => by rw [Nat.zero_add]; exact hj)⟩) (by rw [four_length]; omega) (by omega) ?_); intro p2 cap2 w2 hO2 hB2; have hs2 : w1.heap.size ≤ w2.heap.size := hB2.size; have bel2 : Below w.heap.size w w2 := (hbel.trans (hN1.below.mono hws)).trans hB2; have hc2 := HCW.out w2 bel2)
            | ((with_reducible refine at_slot 58 ?_); (refine arm_append (o := ⟨some 58, _, _, _, _, _⟩) rfl _ _ rfl w.heap.size _ _ _ (xs ++ four bs.length) (by rw [List.length_append, four_length]) rfl hO2 q bs.length c bs rfl rfl (fun e => ⟨by have h1 := HC.out.nil_ e; have h2 := HC.out.cap_; omega, HC.out.nil_ e⟩) (HC.out.below bel2).at_ (by rw [List.length_append, four_length]; omega) (by omega) ?_); intro p3 cap3 w3 hO3 hB3))
          go_roundw
          case rel => exact ⟨⟨k + 1, by omega, by go_num, p3, cap3, by rw [HS.out, ← HXS.out]; simp only [List.length_append, four_length]; congr 1; omega, by rw [HS.out, ← List.append_assoc, ← List.append_assoc, HXS.out]; exact hO3⟩, bel2.trans hB3⟩
          case measure => simp [intOf]; omega
        · obtain rfl : k = l.length := by omega
          rw [List.take_length] at hOwn
          have HX := Lib.hid (show hd ++ imgs (l.take l.length) = image (bytesOf s) l by rw [HI.out, List.take_length])
          go_wp2_with fail
          go_ret2
          refine ⟨⟨p, cap, ?_, by rw [HI.out]; exact hOwn⟩, hbel⟩
          rw [← HX.out]; rfl
end Go.Proofs.YtnjmocobncncdaaGreatDoor.Tg

/-
  The contracts of tag.Of and of the document's Of (layer 3), over this seat's translation.
-/
namespace Go.Proofs.YtnjmocobncncdaaGreatDoor.Tg
open Go.ChangeShapes Go.WideShapes Go.ChangeAt Go.RowKit Go.Proofs.YtnjmocobncncdaaGreatDoor.Num Go.Proofs.YtnjmocobncncdaaGreatDoor.Mem Go.Proofs.YtnjmocobncncdaaGreatDoor.Bt Go.Proofs.YtnjmocobncncdaaGreatDoor.Sha
set_option linter.unusedVariables false

/-- The digest of a name and parts; where there is no image the zero one. -/
def tagD (s : ByteArray) (l : List (List Nat)) : List Nat := if s.size ≤ 255 ∧ l.length ≤ 255 then digest (image (bytesOf s) l) else List.replicate 32 0
theorem digest32 (l : List Nat) : (digest l).length = 32 := outOf_len _
theorem tagD_len (s : ByteArray) (l : List (List Nat)) : (tagD s l).length = 32 := by
  unfold tagD; split
  · exact digest32 _
  · simp
theorem _root_.Go.Proofs.YtnjmocobncncdaaGreatDoor.Bt.Own.nil {w : World} {base : Nat} {p : Option Addr} {cap : Nat} {bs : List Nat} (h : Own w base p cap bs) : p = none → cap = 0 := by
  rintro rfl
  rcases h.own.2 with ⟨hv, _⟩ | ⟨g, cap', cur, hv, _⟩
  · simp only [Value.slice.injEq] at hv; exact hv.2.2
  · simp at hv

set_option maxHeartbeats 1000000 in
set_option maxRecDepth 100000 in
theorem tagOf_any (s : ByteArray) (l : List (List Nat)) (P : Option Addr) (capL : Nat) (w : World) (ht : total l ≤ 800000) (hl : Parts w P l) (hk : w.rangeAt 1 0 (u32s ks)) :
    Calls Tryz.prog 32 #[.string s, .slice P l.length capL] w fun e w' => e = .returned (.agg (u8s (tagD s l)).toArray) ∧ Below w.heap.size w w' := by
  have HL := Lib.hid hl; have HK := Lib.hid hk
  have hk1 : 1 < w.heap.size := range_lt hk (by simp [u32s, ks])
  clear hl hk
  go_enter Tryz.func32, Tryz.ntmps32
  go_wp2_with (first
    | ((with_reducible refine arm_alloc (o := ⟨some 4, _, _, _, _, _⟩) rfl _ rfl _ z25 ?_); intro R w1 hRe hR1 hN1))
  have e1 := hRe.out; have z1 := hN1.size
  have lR : w.heap.size ≤ R := by omega
  by_cases hs : s.size ≤ 255 ∧ l.length ≤ 255
  · have HD := Lib.hid (show tagD s l = digest (image (bytesOf s) l) by unfold tagD; rw [if_pos hs])
    refine (img_short s l P capL w1 hs.1 hs.2 ht (HL.out.below hN1.below)).mono ?_
    rintro e w2 ⟨⟨p, cap, rfl, hOwn⟩, hB2⟩
    have bel2 : Below w.heap.size w w2 := below_step hN1.below (by omega) hB2
    have hRR2 := hR1.old hB2
    have hal : AllLt 256 (image (bytesOf s) l) := image_lt _ _ (by rw [bytesOf_length]; exact hs.1) hs.2 (bytesOf_lt s) HL.out.lt
    have hil : (image (bytesOf s) l).length ≤ 900000 := by rw [image_length, bytesOf_length]; omega
    have HAL := Lib.hid hal
    clear e1 z1 hRe hR1 hN1 hB2 hal
    generalize image (bytesOf s) l = im at HD hOwn HAL hil ⊢
    go_wp2_with fail
    refine (of_any im cap p w2 HAL.out hil hOwn.at.1 hOwn.bytes (range_block HK.out (bel2.block _ hk1))).mono ?_
    rintro e w3 ⟨rfl, hB3⟩
    have bel3 : Below w.heap.size w w3 := below_step bel2 bel2.size hB3
    have hRR3 := hRR2.old hB3
    have HD32 := Lib.hid (digest32 im)
    generalize digest im = dg at HD32 HD ⊢
    go_wp2_with (first
      | ((with_reducible refine arm_store (o := ⟨none, _, _, _, _, _⟩) rfl _ _ _ rfl R 0 rfl (u8s dg) rfl _ _ hRR3 (by rw [u8s_length, u8s_length, List.length_replicate, HD32.out]; omega) (u8s_one _) (by rw [u8s_length, HD32.out]; exact sz25) ?_); intro w4 hR4 hO4 hS4))
    refine bodyPost_ret (v := .agg (u8s dg).toArray) (result_row (p := 4) (ty := 32) (u := 32) (by kernel_rfl) _ _ R _ rfl (hR4.congr (lay_all _ _ (by rw [u8s_length, u8s_length, HD32.out]; simp))) (by rw [u8s_length, HD32.out]; exact sz25)) rfl ⟨by rw [HD.out], below_only bel3 hO4 lR bel3.size⟩
  · have HD := Lib.hid (show tagD s l = List.replicate 32 0 by unfold tagD; rw [if_neg hs])
    refine (img_long s l P capL w1 (by omega)).mono ?_
    rintro e w2 ⟨rfl, rfl⟩
    obtain ⟨zs, hzs⟩ : ∃ zs : List Nat, zs = List.replicate 32 0 := ⟨_, rfl⟩
    rw [← hzs] at HD hR1
    have HZ := Lib.hid hzs
    have HZL := Lib.hid (show zs.length = 32 by rw [hzs]; simp)
    clear hzs e1
    go_wp2_with (first
      | ((with_reducible refine at_slot 15 ?_); (refine arm_build (o := ⟨some 15, _, _, _, _, _⟩) rfl _ _ rfl (u8s zs) (by rw [HZ.out]; kernel_rfl) ?_))
      | ((with_reducible refine arm_store (o := ⟨none, _, _, _, _, _⟩) rfl _ _ _ rfl R 0 rfl (u8s zs) rfl _ _ hR1 (by rw [u8s_length]; omega) (u8s_one _) (by rw [u8s_length, HZL.out]; exact sz25) ?_); intro w4 hR4 hO4 hS4))
    refine bodyPost_ret (v := .agg (u8s zs).toArray) (result_row (p := 4) (ty := 32) (u := 32) (by kernel_rfl) _ _ R _ rfl (hR4.congr (lay_all _ _ rfl)) (by rw [u8s_length, HZL.out]; exact sz25)) rfl ⟨by rw [HD.out], below_only hN1.below hO4 lR hN1.below.size⟩
set_option maxHeartbeats 1000000 in
set_option maxRecDepth 100000 in
theorem refTag_any (s : ByteArray) (l : List (List Nat)) (P : Option Addr) (capL : Nat) (w : World) (ht : total l ≤ 800000) (hl : Parts w P l) (hk : w.rangeAt 0 0 (u32s ks)) :
    Calls Tryz.prog 34 #[.string s, .slice P l.length capL] w fun e w' => e = .returned (.agg (u8s (tagD s l)).toArray) ∧ Below w.heap.size w w' := by
  have HL := Lib.hid hl; have HK := Lib.hid hk
  have hk1 : 0 < w.heap.size := range_lt hk (by simp [u32s, ks])
  clear hl hk
  go_enter Tryz.func34, Tryz.ntmps34
  go_wp2_with (first
    | ((with_reducible refine arm_alloc (o := ⟨some 4, _, _, _, _, _⟩) rfl _ rfl _ z24 ?_); intro R w1 hRe hR1 hN1))
  have e1 := hRe.out; have z1 := hN1.size
  have lR : w.heap.size ≤ R := by omega
  by_cases hs : s.size ≤ 255 ∧ l.length ≤ 255
  · have HD := Lib.hid (show tagD s l = digest (image (bytesOf s) l) by unfold tagD; rw [if_pos hs])
    refine (rimg_short s l P capL w1 hs.1 hs.2 ht (HL.out.below hN1.below)).mono ?_
    rintro e w2 ⟨⟨p, cap, rfl, hOwn⟩, hB2⟩
    have bel2 : Below w.heap.size w w2 := below_step hN1.below (by omega) hB2
    have hRR2 := hR1.old hB2
    have hal : AllLt 256 (image (bytesOf s) l) := image_lt _ _ (by rw [bytesOf_length]; exact hs.1) hs.2 (bytesOf_lt s) HL.out.lt
    have hil : (image (bytesOf s) l).length ≤ 900000 := by rw [image_length, bytesOf_length]; omega
    have HAL := Lib.hid hal
    clear e1 z1 hRe hR1 hN1 hB2 hal
    generalize image (bytesOf s) l = im at HD hOwn HAL hil ⊢
    go_wp2_with fail
    refine (refOf_any im p cap w2 HAL.out hil hOwn.at.1 hOwn.nil hOwn.bytes (range_block HK.out (bel2.block _ hk1))).mono ?_
    rintro e w3 ⟨rfl, hB3⟩
    have bel3 : Below w.heap.size w w3 := below_step bel2 bel2.size hB3
    have hRR3 := hRR2.old hB3
    have HD32 := Lib.hid (digest32 im)
    generalize digest im = dg at HD32 HD ⊢
    go_wp2_with (first
      | ((with_reducible refine arm_store (o := ⟨none, _, _, _, _, _⟩) rfl _ _ _ rfl R 0 rfl (u8s dg) rfl _ _ hRR3 (by rw [u8s_length, u8s_length, List.length_replicate, HD32.out]; omega) (u8s_one _) (by rw [u8s_length, HD32.out]; exact sz24) ?_); intro w4 hR4 hO4 hS4))
    refine bodyPost_ret (v := .agg (u8s dg).toArray) (result_row (p := 4) (ty := 31) (u := 31) (by kernel_rfl) _ _ R _ rfl (hR4.congr (lay_all _ _ (by rw [u8s_length, u8s_length, HD32.out]; simp))) (by rw [u8s_length, HD32.out]; exact sz24)) rfl ⟨by rw [HD.out], below_only bel3 hO4 lR bel3.size⟩
  · have HD := Lib.hid (show tagD s l = List.replicate 32 0 by unfold tagD; rw [if_neg hs])
    refine (rimg_long s l P capL w1 (by omega)).mono ?_
    rintro e w2 ⟨rfl, rfl⟩
    obtain ⟨zs, hzs⟩ : ∃ zs : List Nat, zs = List.replicate 32 0 := ⟨_, rfl⟩
    rw [← hzs] at HD hR1
    have HZ := Lib.hid hzs
    have HZL := Lib.hid (show zs.length = 32 by rw [hzs]; simp)
    clear hzs e1
    go_wp2_with (first
      | ((with_reducible refine at_slot 15 ?_); (refine arm_build (o := ⟨some 15, _, _, _, _, _⟩) rfl _ _ rfl (u8s zs) (by rw [HZ.out]; kernel_rfl) ?_))
      | ((with_reducible refine arm_store (o := ⟨none, _, _, _, _, _⟩) rfl _ _ _ rfl R 0 rfl (u8s zs) rfl _ _ hR1 (by rw [u8s_length]; omega) (u8s_one _) (by rw [u8s_length, HZL.out]; exact sz24) ?_); intro w4 hR4 hO4 hS4))
    refine bodyPost_ret (v := .agg (u8s zs).toArray) (result_row (p := 4) (ty := 31) (u := 31) (by kernel_rfl) _ _ R _ rfl (hR4.congr (lay_all _ _ rfl)) (by rw [u8s_length, HZL.out]; exact sz24)) rfl ⟨by rw [HD.out], below_only hN1.below hO4 lR hN1.below.size⟩
end Go.Proofs.YtnjmocobncncdaaGreatDoor.Tg
