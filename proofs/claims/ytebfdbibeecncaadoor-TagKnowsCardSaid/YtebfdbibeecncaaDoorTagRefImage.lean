/-
  The contracts of the document's Image over this seat's translation.
-/
import Derived.Test.YtebfdbibeecncaaDoorTagImage
namespace Go.Proofs.YtebfdbibeecncaaDoor.Tg
open Go.ChangeShapes Go.WideShapes Go.ChangeAt Go.RowKit Go.Proofs.YtebfdbibeecncaaDoor.Mem Go.Proofs.YtebfdbibeecncaaDoor.Bt
set_option linter.unusedVariables false

theorem bytesOf_get (s : ByteArray) (k : Nat) (h : k < s.size) : ((s[k]'h).toNat : Nat) = (bytesOf s).getD k 0 := by
  have hk : k < s.data.toList.length := by simpa using h
  unfold bytesOf
  rw [List.getD_eq_getElem?_getD, List.getElem?_map, List.getElem?_eq_getElem hk]
  rfl
section
variable {ops : Array Oper} {rest : List Oper} {o : Oper} {a : Act} {w : World} {Q : Exit → Act → World → Prop}
/-- One byte of a text. -/
theorem arm_indexStr (hgd : o.guard = none) (x ix : Operand) (ho : o.op = .index 9 x ix) (s : ByteArray) (hx : a.eval x = .string s) (kk : IntKind) (k : Nat) (hi : a.eval ix = .int kk (k : Int)) (hk : k < s.size)
    (h : wpList Tryd.prog ops Q rest (a.put o.dst (.int .u8 (((bytesOf s).getD k 0 : Nat) : Int))) w) : wpList Tryd.prog ops Q (o :: rest) a w := by
  refine wpList_plain hgd fun K hK => ?_
  have hr := run_index_string (P := Tryd.prog) w 9 s kk (k : Int) (by kernel_rfl)
  rw [dif_pos (by omega)] at hr
  have e : ((s[((k : Int)).toNat]'(by omega)).toNat : Int) = (((bytesOf s).getD k 0 : Nat) : Int) := by
    rw [← bytesOf_get s k hk]; rfl
  rw [e] at hr
  unfold Oper.wp execOp
  simp only [ho, hx, hi, Sem.run_bind, hr, Result.andThen_ok, Sem.run_pure]
  exact hK _ _ h
end
set_option maxRecDepth 100000 in
theorem rimg_long (s : ByteArray) (l : List (List Nat)) (P : Option Addr) (cap : Nat) (w : World) (h : 255 < s.size ∨ 255 < l.length) :
    Calls Tryd.prog 9 #[.string s, .slice P l.length cap] w fun e w' => e = .returned (.tuple #[.slice none 0 0, .int .i64 4]) ∧ w = w' := by
  by_cases h1 : 255 < s.size
  · have hd1 : decide ((255 : Int) < (s.size : Int)) = true := decide_eq_true (by omega)
    go_enter Tryd.func9, Tryd.ntmps9
    go_wp2_with fail
    go_ret2
    exact ⟨rfl, rfl⟩
  · have hd1 : decide ((255 : Int) < (s.size : Int)) = false := decide_eq_false (by omega)
    have hd2 : decide ((255 : Int) < (l.length : Int)) = true := decide_eq_true (by omega)
    go_enter Tryd.func9, Tryd.ntmps9
    go_wp2_with fail
    go_ret2
    exact ⟨rfl, rfl⟩
/-- What holds in the loop over the name. -/
structure NmRel (w : World) (s : ByteArray) (i v : Value) (wr : World) : Prop where
  ex : ∃ k : Nat, k ≤ s.size ∧ i = .int .i64 k ∧ ∃ p cap, v = .slice p (1 + k) cap ∧ Own wr w.heap.size p cap ([s.size] ++ (bytesOf s).take k)
  bel : Below w.heap.size w wr
theorem bytes_snoc (s : ByteArray) (k : Nat) (h : k < s.size) : (bytesOf s).take (k + 1) = (bytesOf s).take k ++ [(bytesOf s).getD k 0] := by
  have hk : k < (bytesOf s).length := by rw [bytesOf_length]; exact h
  rw [List.take_add_one, List.getElem?_eq_getElem hk]
  simp [List.getD_eq_getElem?_getD, List.getElem?_eq_getElem hk]

set_option maxHeartbeats 1000000 in
set_option maxRecDepth 100000 in
theorem rimg_short (s : ByteArray) (l : List (List Nat)) (P : Option Addr) (capL : Nat) (w : World) (h1 : s.size ≤ 255) (h2 : l.length ≤ 255) (ht : total l ≤ 800000) (hl : Parts w P l) :
    Calls Tryd.prog 9 #[.string s, .slice P l.length capL] w (ImgPost w s l) := by
  have HL := Lib.hid hl; clear hl
  have hd1 : decide ((255 : Int) < (s.size : Int)) = false := decide_eq_false (by omega)
  have hd2 : decide ((255 : Int) < (l.length : Int)) = false := decide_eq_false (by omega)
  have HI := Lib.hid (image_split s l)
  have hbl := bytesOf_length s
  go_enter Tryd.func9, Tryd.ntmps9
  go_wp2_with (first
    | ((with_reducible refine at_slot 20 ?_); (refine arm_buildSlice (o := ⟨some 20, _, _, _, _, _⟩) rfl 1 _ rfl [.int .u8 ((s.size : Nat) : Int)] #[(0, .int .u8 ((s.size : Nat) : Int))] (by simp [Act.eval] <;> omega) (bs1 _) ?_); intro b1 w1 hb1 hR1 hN1; have hs1 : w1.heap.size = w.heap.size + 1 := hN1.size))
  have h0 : NmRel w s (.int .i64 0) (.slice (some ⟨b1, 0, none⟩) 1 1) w1 := ⟨⟨0, by omega, rfl, some ⟨b1, 0, none⟩, 1, rfl, own_row (bs := [s.size]) hR1 (by have := hb1.out; omega) (by simp)⟩, hN1.below⟩
  clear hb1 hR1 hN1 hs1
  go_loopw [7, 6] (fun i v wr => NmRel w s i v wr) (fun i _ _ => s.size - (intOf i).toNat)
  case atStart => exact h0
  case round =>
    clear h0 w1
    obtain ⟨⟨k, hk, rfl, p, cap, rfl, hOwn⟩, hbel⟩ := hrel
    have hws : w.heap.size ≤ wr.heap.size := hbel.size
    by_cases hlt : k < s.size
    · have ik : (k : Int) < (s.size : Int) := by omega
      have HS := Lib.hid (bytes_snoc s k hlt)
      have hxl : ([s.size] ++ (bytesOf s).take k).length = 1 + k := by simp [hbl]; omega
      generalize hxs : [s.size] ++ (bytesOf s).take k = xs at hOwn hxl
      have HXS := Lib.hid hxs; clear hxs
      generalize hyy : (bytesOf s).getD k 0 = y at HS
      have HY := Lib.hid hyy; clear hyy
      go_wp2_with (first
        | ((with_reducible refine at_slot 30 ?_); (refine arm_indexStr (o := ⟨some 30, _, _, _, _, _⟩) rfl _ _ rfl s rfl .i64 k rfl hlt ?_); rw [HY.out])
        | ((with_reducible refine at_slot 31 ?_); (refine arm_buildSlice (o := ⟨some 31, _, _, _, _, _⟩) rfl 1 _ rfl [.int .u8 ((y : Nat) : Int)] #[(0, .int .u8 ((y : Nat) : Int))] (by simp [Act.eval, Act.put]) (bs1 _) ?_); intro b2 w2 hb2 hR2 hN2; have hs2 : w2.heap.size = wr.heap.size + 1 := hN2.size)
        | ((with_reducible refine at_slot 32 ?_); (refine arm_append (o := ⟨some 32, _, _, _, _, _⟩) rfl _ _ rfl w.heap.size _ _ _ xs hxl.symm rfl (hOwn.below hN2.below) (some ⟨b2, 0, none⟩) 1 1 [y] rfl rfl (fun h => by cases h) (fun _ => ⟨b2, 0, rfl, hR2.range 0 _ (fun j v hj => by rw [Nat.zero_add]; exact hj)⟩) (by simp; omega) (by omega) ?_); intro p3 cap3 w3 hO3 hB3))
      go_roundw
      case rel => exact ⟨⟨k + 1, by omega, by go_num, p3, cap3, by rw [Nat.add_assoc], by rw [HS.out, ← List.append_assoc, HXS.out]; exact hO3⟩, (hbel.trans (hN2.below.mono hws)).trans hB3⟩
      case measure => simp [intOf]; omega
    · obtain rfl : k = s.size := by omega
      rw [List.take_of_length_le (by rw [hbl]; omega)] at hOwn
      go_wp2_with (first
        | ((with_reducible refine at_slot 37 ?_); (refine arm_buildSlice (o := ⟨some 37, _, _, _, _, _⟩) rfl 1 _ rfl [.int .u8 ((l.length : Nat) : Int)] #[(0, .int .u8 ((l.length : Nat) : Int))] (by simp [Act.eval] <;> omega) (bs1 _) ?_); intro b3 w3 hb3 hR3 hN3; have hs3 : w3.heap.size = wr.heap.size + 1 := hN3.size)
        | ((with_reducible refine at_slot 38 ?_); (refine arm_append (o := ⟨some 38, _, _, _, _, _⟩) rfl _ _ rfl w.heap.size _ _ _ ([s.size] ++ bytesOf s) (by simp [hbl]; omega) rfl (hOwn.below hN3.below) (some ⟨b3, 0, none⟩) 1 1 [l.length] rfl rfl (fun h => by cases h) (fun _ => ⟨b3, 0, rfl, hR3.range 0 _ (fun j v hj => by rw [Nat.zero_add]; exact hj)⟩) (by simp; omega) (by omega) ?_); intro p4 cap4 w4 hO4 hB4))
      have bel4 : Below w.heap.size w w4 := (hbel.trans (hN3.below.mono hws)).trans hB4
      have hdl : ([s.size] ++ bytesOf s ++ [l.length]).length = 1 + s.size + 1 := by simp [hbl]; omega
      have h0 : ImRel w ([s.size] ++ bytesOf s ++ [l.length]) l (.int .i64 0) (.slice p4 (1 + s.size + 1) cap4) w4 := ⟨⟨0, by omega, rfl, p4, cap4, by rw [← hdl, List.take_zero]; simp [imgs], by rw [List.take_zero]; simpa [imgs] using hO4⟩, bel4⟩
      clear hOwn hbel hws hk hlt hb3 hR3 hN3 hs3 hB4 hO4 bel4 w3 
      generalize [s.size] ++ bytesOf s ++ [l.length] = hd at HI hdl h0
      go_loopw [8, 6] (fun i v wr => ImRel w hd l i v wr) (fun i _ _ => l.length - (intOf i).toNat)
      case atStart => exact h0
      case round =>
        clear h0
        obtain ⟨⟨k, hk, rfl, p, cap, rfl, hOwn⟩, hbel⟩ := hrel
        have hws : w.heap.size ≤ wr.heap.size := hbel.size
        have hxl : (hd ++ imgs (l.take k)).length ≤ 2000000 := by
          have := total_take_le l k
          rw [List.length_append, imgs_length, List.length_take]; omega
        by_cases hlt : k < l.length
        · obtain ⟨g, o, rfl, hg, hrows⟩ := HL.out.at_ (by omega)
          obtain ⟨q, c, hcell, hcame⟩ := hrows k hlt
          have hcw : ∀ w', Below w.heap.size w w' → w'.cell? ⟨g, o + k, none⟩ = some (.slice q (l.getD k []).length c) := fun w' hb => by rw [hb.cell (p := ⟨g, o + k, none⟩) hg]; exact hcell
          have hbt : (l.getD k []).length ≤ total l := by
            have h1 := total_snoc l k hlt
            have h2 := total_take_le l (k + 1)
            omega
          have HS := Lib.hid (imgs_snoc l k hlt)
          have HC := Lib.hid hcame
          clear hrows hcell hcame
          generalize l.getD k [] = bs at hcw hbt HS HC
          generalize hxs : hd ++ imgs (l.take k) = xs at hOwn hxl ⊢
          have HXS := Lib.hid hxs; clear hxs
          have ik : (k : Int) < (l.length : Int) := by omega
          have hc0 := hcw wr hbel
          have HCW := Lib.hid hcw; clear hcw
          go_wp2_with fail
          refine (four_any bs.length wr (by omega)).mono ?_
          rintro e w1 ⟨⟨b1, rfl, hR1⟩, hN1⟩
          have hs1 : w1.heap.size = wr.heap.size + 1 := hN1.size
          go_wp2_with (first
            | ((with_reducible refine at_slot 52 ?_); (refine arm_append (o := ⟨some 52, _, _, _, _, _⟩) rfl _ _ rfl w.heap.size _ _ _ xs rfl rfl (hOwn.below hN1.below) (some ⟨b1, 0, none⟩) 4 4 (four bs.length) rfl rfl (fun h => by cases h) (fun _ => ⟨b1, 0, rfl, hR1.range 0 _ (fun j v hj => by rw [Nat.zero_add]; exact hj)⟩) (by rw [four_length]; omega) (by omega) ?_); intro p2 cap2 w2 hO2 hB2; have hs2 : w1.heap.size ≤ w2.heap.size := hB2.size; have bel2 : Below w.heap.size w w2 := (hbel.trans (hN1.below.mono hws)).trans hB2; have hc2 := HCW.out w2 bel2)
            | ((with_reducible refine at_slot 58 ?_); (refine arm_append (o := ⟨some 58, _, _, _, _, _⟩) rfl _ _ rfl w.heap.size _ _ _ (xs ++ four bs.length) (by rw [List.length_append, four_length]) rfl hO2 q bs.length c bs rfl rfl (fun e => ⟨by have h1 := HC.out.nil_ e; have h2 := HC.out.cap_; omega, HC.out.nil_ e⟩) (HC.out.below bel2).at_ (by rw [List.length_append, four_length]; omega) (by omega) ?_); intro p3 cap3 w3 hO3 hB3))
          go_roundw
          case rel => exact ⟨⟨k + 1, by omega, by go_num, p3, cap3, by rw [HS.out, ← HXS.out]; simp only [List.length_append, four_length]; congr 1; omega, by rw [HS.out, ← List.append_assoc, ← List.append_assoc, HXS.out]; exact hO3⟩, bel2.trans hB3⟩
          case measure => simp [intOf]; omega
        · obtain rfl : k = l.length := by omega
          rw [List.take_length] at hOwn
          have HX := Lib.hid (show hd ++ imgs (l.take l.length) = image (bytesOf s) l by rw [HI.out, List.take_length])
          go_wp2_with fail
          go_ret2
          refine ⟨⟨p, cap, ?_, by rw [HI.out]; exact hOwn⟩, hbel⟩
          rw [← HX.out]; rfl
end Go.Proofs.YtebfdbibeecncaaDoor.Tg
