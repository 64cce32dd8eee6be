/-
  The walk of layer 3's statement TagApart over this seat's translation, out of the contracts: it returns true, and changes nothing that was there.
-/
import Derived.Test.YtebfdbibeecncaaDoorTagLaws
namespace Go.Proofs.YtebfdbibeecncaaDoor.Tg
open Go.ChangeShapes Go.WideShapes Go.ChangeAt Go.RowKit Go.Proofs.YtebfdbibeecncaaDoor.Num Go.Proofs.YtebfdbibeecncaaDoor.Mem Go.Proofs.YtebfdbibeecncaaDoor.Bt Go.Proofs.YtebfdbibeecncaaDoor.Sha Go.Proofs.YtebfdbibeecncaaDoor.Mp
set_option linter.unusedVariables false

theorem run_op_index {P : Program} {o : Oper} {a : Act} (t : TypeId) (x ix : Operand) (ho : o.op = .indexAddr t x ix) (e : TypeId) (hu : P.underlying t = some (.slice e)) (hse : (P.info? e).map (·.size) = some 1)
    (g off len cap : Nat) (hx : a.eval x = .slice (some ⟨g, off, none⟩) len cap) (kk : IntKind) (k : Nat) (hi : a.eval ix = .int kk (k : Int)) (hk : k < len) (w : World) : (execOp a.eval o).run P w = .ok (.value (.pointer (some ⟨g, off + k, none⟩))) w := by
  cases hq : P.info? e with
  | none => simp [hq] at hse
  | some ie =>
    have hs : ie.size = 1 := by simpa [hq] using hse
    have h3 : (⟨g, off, none⟩ : Addr).add k = ⟨g, off + k, none⟩ := Addr.add_mid g off k
    unfold execOp
    simp [ho, hx, hi, Instr.indexAt, asIntOf, run_underlying hu, sizeOf, typeInfo, hq, hs, hk, h3]
/-- What Image leaves, one way or the other. -/
structure ImgAny (w : World) (s : ByteArray) (l : List (List Nat)) (e : Ending) (w' : World) : Prop where
  ex : (s.size ≤ 255 ∧ l.length ≤ 255 ∧ ∃ p cap, e = .returned (.tuple #[.slice p (image (bytesOf s) l).length cap, .int .i64 0]) ∧ Rd w' p (image (bytesOf s) l)) ∨ ((255 < s.size ∨ (s.size ≤ 255 ∧ 255 < l.length)) ∧ e = .returned (.tuple #[.slice none 0 0, .int .i64 4]))
  bel : Below w.heap.size w w'
theorem img_any (s : ByteArray) (l : List (List Nat)) (P : Option Addr) (capL : Nat) (w : World) (ht : total l ≤ 800000) (hl : Parts w P l) :
    Calls Tryd.prog 8 #[.string s, .slice P l.length capL] w (ImgAny w s l) := by
  by_cases h : s.size ≤ 255 ∧ l.length ≤ 255
  · exact (img_short s l P capL w h.1 h.2 ht hl).mono fun e w' ⟨⟨p, cap, he, hO⟩, hB⟩ => ⟨.inl ⟨h.1, h.2, p, cap, he, hO.rd⟩, hB⟩
  · exact (img_long s l P capL w (by omega)).mono fun e w' ⟨he, hw⟩ => ⟨.inr ⟨by omega, he⟩, hw ▸ Below.refl _ _⟩
/-- What holds in TagApart's loop. -/
structure ApRel (w4 : World) (a b : ByteArray) (l m : List (List Nat)) (i v : Value) (wr : World) : Prop where
  ex : ∃ k : Nat, k ≤ l.length ∧ i = .int .i64 k ∧ ∃ sm : Bool, v = .bool sm ∧ (sm = true ↔ a = b ∧ l.length = m.length ∧ ∀ j, j < k → l.getD j [] = m.getD j [])
  bel : Below w4.heap.size w4 wr
theorem list_ext {l m : List (List Nat)} (h : l.length = m.length) (hg : ∀ i, i < l.length → l.getD i [] = m.getD i []) : l = m := by
  apply List.ext_getElem h
  intro i h1 h2
  have := hg i h1
  rwa [List.getD_eq_getElem?_getD, List.getD_eq_getElem?_getD, List.getElem?_eq_getElem h1, List.getElem?_eq_getElem h2] at this
theorem same_text (a b : ByteArray) : (a.toList == b.toList) = decide (a = b) := by
  by_cases h : a = b
  · simp [h]
  · rw [decide_eq_false h]
    refine beq_eq_false_iff_ne.2 fun e => h ?_
    rw [ByteArray.toList_eq, ByteArray.toList_eq] at e
    exact ByteArray.ext (Array.ext' e)
theorem part_len (l : List (List Nat)) (k : Nat) (h : k < l.length) : (l.getD k []).length ≤ total l := by
  have h1 := total_snoc l k h
  have h2 := total_take_le l (k + 1)
  omega

set_option maxHeartbeats 2000000 in
set_option maxRecDepth 100000 in
theorem tagApart_any (a b : ByteArray) (l m : List (List Nat)) (P Q : Option Addr) (capL capM : Nat) (w : World) (ha : a.size ≤ maxLen) (hb : b.size ≤ maxLen) (hl : Parts w P l) (hm : Parts w Q m) (hll : l.length ≤ maxLen) (hml : m.length ≤ maxLen)
    (hk : w.rangeAt 1 0 (u32s ks)) (hk2 : w.rangeAt 0 0 (u32s ks)) :
    Calls Tryd.prog 4 #[.string a, .string b, .slice P l.length capL, .slice Q m.length capM] w fun e w' => e = .returned (.bool true) ∧ Below w.heap.size w w' := by
  have HL := Lib.hid hl; have HM := Lib.hid hm; have HS := Lib.hid (And.intro (And.intro ha hb) (And.intro hll hml))
  have HKS := Lib.hid (And.intro hk hk2)
  clear hk hk2 hl hm ha hb hll hml
  go_enter Tryd.func4, Tryd.ntmps4
  go_wp2_with fail
  refine (awake_any w HKS.out.1 HKS.out.2).mono ?_
  rintro e w1 ⟨rfl, h1⟩
  go_wp2_with fail
  refine (large_any a l P capL w1 HS.out.1.1 (HL.out.below h1) HS.out.2.1).mono ?_
  rintro e w2 ⟨⟨big, rfl, hbig⟩, rfl⟩
  cases big with
  | true =>
    go_wp2_with fail
    go_ret
    exact ⟨rfl, h1⟩
  | false =>
    obtain ⟨ha1, ha2, ha3⟩ := hbig rfl
    clear hbig
    go_wp2_with fail
    refine (large_any b m Q capM w1 HS.out.1.2 (HM.out.below h1) HS.out.2.2).mono ?_
    rintro e w2 ⟨⟨big, rfl, hbig⟩, rfl⟩
    cases big with
    | true =>
      go_wp2_with fail
      go_ret
      exact ⟨rfl, h1⟩
    | false =>
      obtain ⟨hb1, hb2, hb3⟩ := hbig rfl
      clear hbig
      go_wp2_with fail
      refine (img_any a l P capL w1 (by omega) (HL.out.below h1)).mono ?_
      rintro e w3 ⟨hx, hB3⟩
      have bel3 : Below w.heap.size w w3 := below_step h1 h1.size hB3
      rcases hx with ⟨sa1, sa2, p, cap, rfl, hrx⟩ | ⟨hla, rfl⟩
      · go_wp2_with fail
        refine (img_any b m Q capM w3 (by omega) (HM.out.below bel3)).mono ?_
        rintro e w4 ⟨hy, hB4⟩
        have bel4 : Below w.heap.size w w4 := below_step bel3 bel3.size hB4
        rcases hy with ⟨sb1, sb2, q, cap2, rfl, hry⟩ | ⟨hlb, rfl⟩
        · have hrx4 := hrx.below hB4
          have hxl : (image (bytesOf a) l).length ≤ 1000000 := by rw [image_length, bytesOf_length]; omega
          have hyl : (image (bytesOf b) m).length ≤ 1000000 := by rw [image_length, bytesOf_length]; omega
          have HXY : Hid (image (bytesOf a) l = image (bytesOf b) m ↔ a = b ∧ l = m) := Lib.hid ⟨fun h => by
            obtain ⟨e1, e2⟩ := image_inj (by omega) (by omega) h
            exact ⟨bytesOf_inj e1, e2⟩, fun ⟨e1, e2⟩ => by rw [e1, e2]⟩
          have HXR := Lib.hid (And.intro hrx4 hry)
          clear hrx hrx4 hry hB3 hB4 h1 bel3
          generalize image (bytesOf a) l = ix at hxl HXY HXR ⊢
          generalize image (bytesOf b) m = iy at hyl HXY HXR ⊢
          have hst := same_text a b
          obtain ⟨ab, hab⟩ : ∃ ab : Bool, decide (a = b) = ab := ⟨_, rfl⟩
          rw [hab] at hst
          have HAB := Lib.hid hab; clear hab
          have bel44 : Below w4.heap.size w4 w4 := Below.refl _ _
          cases ab with
          | false =>
            have hne : ¬ a = b := of_decide_eq_false HAB.out
            have h0 : ApRel w4 a b l m (.int .i64 0) (.bool false) w4 := ⟨⟨0, by omega, rfl, false, rfl, ⟨fun h => (by cases h), fun h => absurd h.1 hne⟩⟩, bel44⟩
            clear hne bel44
            go_wp2_with fail
            go_loopw [14, 13] (fun i v wr => ApRel w4 a b l m i v wr) (fun i _ _ => l.length - (intOf i).toNat)
            case atStart => exact h0
            case round =>
              clear h0
              obtain ⟨⟨k, hkn, rfl, sm, rfl, hsm⟩, hbel⟩ := hrel
              have HSM := Lib.hid hsm; clear hsm
              cases sm with
              | false =>
                have hdec : decide (ix = iy) = false := decide_eq_false fun h => by
                  obtain ⟨e1, e2⟩ := HXY.out.1 h
                  have := HSM.out.2 ⟨e1, by rw [e2], fun j _ => by rw [e2]⟩
                  cases this
                go_wp2_with fail
                refine (same_any ix iy p q cap cap2 wr (HXR.out.1.below hbel) (HXR.out.2.below hbel) hxl hyl).mono ?_
                rw [hdec]
                rintro e w5 ⟨rfl, hB5⟩
                go_wp2_with fail
                go_ret
                exact ⟨rfl, below_step (below_step bel4 bel4.size hbel) (Nat.le_trans bel4.size hbel.size) hB5⟩
              | true =>
                obtain ⟨hab, hlm, hall⟩ := HSM.out.1 rfl
                have HA := Lib.hid hab; clear hab
                have HLM := Lib.hid hlm
                have HAL := Lib.hid hall
                clear hall hlm
                by_cases hlt : k < l.length
                · have hlt2 : k < m.length := by have := HLM.out; omega
                  obtain ⟨g, o, rfl, hg, hrows⟩ := HL.out.at_ (by omega)
                  obtain ⟨p1, c1, hc1, hcame1⟩ := hrows k hlt
                  obtain ⟨g2, o2, rfl, hg2, hrows2⟩ := HM.out.at_ (by omega)
                  obtain ⟨p2, c2, hc2, hcame2⟩ := hrows2 k hlt2
                  have belw : Below w.heap.size w wr := below_step bel4 bel4.size hbel
                  have ik1 : (k : Int) < (l.length : Int) := by omega
                  have hx1 := part_len l k hlt
                  have hx2 := part_len m k hlt2
                  have HC1 := Lib.hid hcame1; have HC2 := Lib.hid hcame2
                  clear hrows hrows2 hcame1 hcame2
                  generalize he1 : l.getD k [] = x1 at hc1 HC1 hx1
                  generalize he2 : m.getD k [] = x2 at hc2 HC2 hx2
                  have HE1 := Lib.hid he1; have HE2 := Lib.hid he2; clear he1 he2
                  go_wp2_with fail
                  have belz : Below w.heap.size w wr.drew := belw.trans ((Below.refl _ _).drew)
                  have hbelz : Below w4.heap.size w4 wr.drew := hbel.trans ((Below.refl _ _).drew)
                  refine wp_region_held (S := fun w' => Below wr.drew.heap.size wr.drew w') (by kernel_rfl) ?_
                  change wpAnyH _ _ _ _ _ _ _ _ wr.drew
                  clear belw hbel
                  generalize wr.drew = wz at belz hbelz ⊢
                  have hS : Below wz.heap.size wz wz := Below.refl _ _
                  have hcl : wz.cell? ⟨g, o + k, none⟩ = some (.slice p1 x1.length c1) := by rw [belz.cell (p := ⟨g, o + k, none⟩) hg]; exact hc1
                  have hcm : wz.cell? ⟨g2, o2 + k, none⟩ = some (.slice p2 x2.length c2) := by rw [belz.cell (p := ⟨g2, o2 + k, none⟩) hg2]; exact hc2
                  refine h_take 0 (.slice (some ⟨g, o, none⟩) l.length capL) rfl 86 rfl (by kernel_rfl) (by kernel_rfl) (by kernel_rfl) (by kernel_rfl) (fun _ _ _ h => h) (fun w' _ => by kernel_rfl) hS ?_
                  simp only [Act.put, List.setIfInBounds_toArray, List.set_cons_zero, List.set_cons_succ]
                  refine h_take 1 (.int .i64 (k : Int)) rfl 87 rfl (by kernel_rfl) (by kernel_rfl) (by kernel_rfl) (by kernel_rfl) (fun _ _ _ h => h) (fun w' _ => by kernel_rfl) hS ?_
                  simp only [Act.put, List.setIfInBounds_toArray, List.set_cons_zero, List.set_cons_succ]
                  refine h_take 2 (.pointer (some ⟨g, o + k, none⟩)) rfl 88 rfl (by kernel_rfl) (by kernel_rfl) (by kernel_rfl) (by kernel_rfl) (fun _ _ _ h => h) (fun w' _ => run_op_index _ _ _ rfl 25 (by kernel_rfl) (by kernel_rfl) g o _ _ rfl .i64 k rfl hlt w') hS ?_
                  simp only [Act.put, List.setIfInBounds_toArray, List.set_cons_zero, List.set_cons_succ]
                  refine h_take 3 (.slice p1 x1.length c1) rfl 89 rfl (by kernel_rfl) (by kernel_rfl) (by kernel_rfl) (by kernel_rfl) (fun _ _ _ h => h) (fun w' hC => run_op_load1 _ _ rfl (.slice 5) (by kernel_rfl) rfl _ rfl _ (by rw [hC.cell (p := ⟨g, o + k, none⟩) (Nat.lt_of_lt_of_le hg belz.size)]; exact hcl)) hS ?_
                  simp only [Act.put, List.setIfInBounds_toArray, List.set_cons_zero, List.set_cons_succ]
                  refine h_take 4 (.slice (some ⟨g2, o2, none⟩) m.length capM) rfl 90 rfl (by kernel_rfl) (by kernel_rfl) (by kernel_rfl) (by kernel_rfl) (fun _ _ _ h => h) (fun w' _ => by kernel_rfl) hS ?_
                  simp only [Act.put, List.setIfInBounds_toArray, List.set_cons_zero, List.set_cons_succ]
                  refine h_take 5 (.int .i64 (k : Int)) rfl 91 rfl (by kernel_rfl) (by kernel_rfl) (by kernel_rfl) (by kernel_rfl) (fun _ _ _ h => h) (fun w' _ => by kernel_rfl) hS ?_
                  simp only [Act.put, List.setIfInBounds_toArray, List.set_cons_zero, List.set_cons_succ]
                  refine h_take 6 (.pointer (some ⟨g2, o2 + k, none⟩)) rfl 92 rfl (by kernel_rfl) (by kernel_rfl) (by kernel_rfl) (by kernel_rfl) (fun _ _ _ h => h) (fun w' _ => run_op_index _ _ _ rfl 25 (by kernel_rfl) (by kernel_rfl) g2 o2 _ _ rfl .i64 k rfl hlt2 w') hS ?_
                  simp only [Act.put, List.setIfInBounds_toArray, List.set_cons_zero, List.set_cons_succ]
                  refine h_take 7 (.slice p2 x2.length c2) rfl 93 rfl (by kernel_rfl) (by kernel_rfl) (by kernel_rfl) (by kernel_rfl) (fun _ _ _ h => h) (fun w' hC => run_op_load1 _ _ rfl (.slice 5) (by kernel_rfl) rfl _ rfl _ (by rw [hC.cell (p := ⟨g2, o2 + k, none⟩) (Nat.lt_of_lt_of_le hg2 belz.size)]; exact hcm)) hS ?_
                  simp only [Act.put, List.setIfInBounds_toArray, List.set_cons_zero, List.set_cons_succ]
                  refine h_one (i := 8) (by kernel_rfl) (o_call rfl 94 rfl (by kernel_rfl) (run_op_call 10 _ _ rfl #[.slice p1 x1.length c1, .slice p2 x2.length c2] (by simp only [List.map_toArray, List.map_cons, List.map_nil]; rfl) Tryd.func10 (by kernel_rfl) (by kernel_rfl) wz) (same_any x1 x2 p1 p2 c1 c2 wz (HC1.out.below belz).rd (HC2.out.below belz).rd (by omega) (by omega)) ?_)
                  rintro e wy ⟨rfl, hBy⟩
                  generalize hdd : decide (x1 = x2) = dd
                  have HDD := Lib.hid hdd; clear hdd
                  refine ⟨_, rfl, hBy, ?_⟩
                  simp only [Act.put, List.setIfInBounds_toArray, List.set_cons_zero, List.set_cons_succ]
                  refine h_take 9 (.bool dd) rfl 13 rfl (by kernel_rfl) (by kernel_rfl) (by kernel_rfl) (by kernel_rfl) (fun _ _ _ h => h) (fun w' _ => by kernel_rfl) hBy ?_
                  simp only [Act.put, List.setIfInBounds_toArray, List.set_cons_zero, List.set_cons_succ]
                  refine wpAnyH_done (by kernel_rfl) ?_ _
                  have hbely : Below w4.heap.size w4 wy := below_step hbelz hbelz.size hBy
                  clear hS hcl hcm hBy hbelz belz hc1 hc2
                  go_wp2_with fail
                  go_roundw
                  case rel => exact ⟨⟨k + 1, by omega, by go_num, dd, rfl, ⟨fun h => ⟨HA.out, HLM.out, fun j hj => by
                    rcases Nat.lt_or_ge j k with hj1 | hj1
                    · exact HAL.out j hj1
                    · obtain rfl : j = k := by omega
                      rw [HE1.out, HE2.out]
                      exact of_decide_eq_true (HDD.out.trans h)⟩, fun h => by
                    rw [← HDD.out]
                    exact decide_eq_true (by rw [← HE1.out, ← HE2.out]; exact h.2.2 k (by omega))⟩⟩, hbely⟩
                  case measure => simp [intOf]; omega
                · obtain rfl : k = l.length := by omega
                  have hdec : decide (ix = iy) = true := decide_eq_true (HXY.out.2 ⟨HA.out, list_ext HLM.out (fun i hi => HAL.out i hi)⟩)
                  go_wp2_with fail
                  refine (same_any ix iy p q cap cap2 wr (HXR.out.1.below hbel) (HXR.out.2.below hbel) hxl hyl).mono ?_
                  rw [hdec]
                  rintro e w5 ⟨rfl, hB5⟩
                  go_wp2_with fail
                  go_ret
                  exact ⟨rfl, below_step (below_step bel4 bel4.size hbel) (Nat.le_trans bel4.size hbel.size) hB5⟩
          | true =>
            have heq : a = b := of_decide_eq_true HAB.out
            by_cases hlm : l.length = m.length
            · have hli : ((l.length : Int) == (m.length : Int)) = true := by simp [hlm]
              have h0 : ApRel w4 a b l m (.int .i64 0) (.bool true) w4 := ⟨⟨0, by omega, rfl, true, rfl, ⟨fun _ => ⟨heq, hlm, fun j hj => by omega⟩, fun _ => rfl⟩⟩, bel44⟩
              clear heq bel44 hlm
              go_wp2_with fail
              go_loopw [14, 13] (fun i v wr => ApRel w4 a b l m i v wr) (fun i _ _ => l.length - (intOf i).toNat)
              case atStart => exact h0
              case round =>
                clear h0
                obtain ⟨⟨k, hkn, rfl, sm, rfl, hsm⟩, hbel⟩ := hrel
                have HSM := Lib.hid hsm; clear hsm
                cases sm with
                | false =>
                  have hdec : decide (ix = iy) = false := decide_eq_false fun h => by
                    obtain ⟨e1, e2⟩ := HXY.out.1 h
                    have := HSM.out.2 ⟨e1, by rw [e2], fun j _ => by rw [e2]⟩
                    cases this
                  go_wp2_with fail
                  refine (same_any ix iy p q cap cap2 wr (HXR.out.1.below hbel) (HXR.out.2.below hbel) hxl hyl).mono ?_
                  rw [hdec]
                  rintro e w5 ⟨rfl, hB5⟩
                  go_wp2_with fail
                  go_ret
                  exact ⟨rfl, below_step (below_step bel4 bel4.size hbel) (Nat.le_trans bel4.size hbel.size) hB5⟩
                | true =>
                  obtain ⟨hab, hlm, hall⟩ := HSM.out.1 rfl
                  have HA := Lib.hid hab; clear hab
                  have HLM := Lib.hid hlm
                  have HAL := Lib.hid hall
                  clear hall hlm
                  by_cases hlt : k < l.length
                  · have hlt2 : k < m.length := by have := HLM.out; omega
                    obtain ⟨g, o, rfl, hg, hrows⟩ := HL.out.at_ (by omega)
                    obtain ⟨p1, c1, hc1, hcame1⟩ := hrows k hlt
                    obtain ⟨g2, o2, rfl, hg2, hrows2⟩ := HM.out.at_ (by omega)
                    obtain ⟨p2, c2, hc2, hcame2⟩ := hrows2 k hlt2
                    have belw : Below w.heap.size w wr := below_step bel4 bel4.size hbel
                    have ik1 : (k : Int) < (l.length : Int) := by omega
                    have hx1 := part_len l k hlt
                    have hx2 := part_len m k hlt2
                    have HC1 := Lib.hid hcame1; have HC2 := Lib.hid hcame2
                    clear hrows hrows2 hcame1 hcame2
                    generalize he1 : l.getD k [] = x1 at hc1 HC1 hx1
                    generalize he2 : m.getD k [] = x2 at hc2 HC2 hx2
                    have HE1 := Lib.hid he1; have HE2 := Lib.hid he2; clear he1 he2
                    go_wp2_with fail
                    have belz : Below w.heap.size w wr.drew := belw.trans ((Below.refl _ _).drew)
                    have hbelz : Below w4.heap.size w4 wr.drew := hbel.trans ((Below.refl _ _).drew)
                    refine wp_region_held (S := fun w' => Below wr.drew.heap.size wr.drew w') (by kernel_rfl) ?_
                    change wpAnyH _ _ _ _ _ _ _ _ wr.drew
                    clear belw hbel
                    generalize wr.drew = wz at belz hbelz ⊢
                    have hS : Below wz.heap.size wz wz := Below.refl _ _
                    have hcl : wz.cell? ⟨g, o + k, none⟩ = some (.slice p1 x1.length c1) := by rw [belz.cell (p := ⟨g, o + k, none⟩) hg]; exact hc1
                    have hcm : wz.cell? ⟨g2, o2 + k, none⟩ = some (.slice p2 x2.length c2) := by rw [belz.cell (p := ⟨g2, o2 + k, none⟩) hg2]; exact hc2
                    refine h_take 0 (.slice (some ⟨g, o, none⟩) l.length capL) rfl 86 rfl (by kernel_rfl) (by kernel_rfl) (by kernel_rfl) (by kernel_rfl) (fun _ _ _ h => h) (fun w' _ => by kernel_rfl) hS ?_
                    simp only [Act.put, List.setIfInBounds_toArray, List.set_cons_zero, List.set_cons_succ]
                    refine h_take 1 (.int .i64 (k : Int)) rfl 87 rfl (by kernel_rfl) (by kernel_rfl) (by kernel_rfl) (by kernel_rfl) (fun _ _ _ h => h) (fun w' _ => by kernel_rfl) hS ?_
                    simp only [Act.put, List.setIfInBounds_toArray, List.set_cons_zero, List.set_cons_succ]
                    refine h_take 2 (.pointer (some ⟨g, o + k, none⟩)) rfl 88 rfl (by kernel_rfl) (by kernel_rfl) (by kernel_rfl) (by kernel_rfl) (fun _ _ _ h => h) (fun w' _ => run_op_index _ _ _ rfl 25 (by kernel_rfl) (by kernel_rfl) g o _ _ rfl .i64 k rfl hlt w') hS ?_
                    simp only [Act.put, List.setIfInBounds_toArray, List.set_cons_zero, List.set_cons_succ]
                    refine h_take 3 (.slice p1 x1.length c1) rfl 89 rfl (by kernel_rfl) (by kernel_rfl) (by kernel_rfl) (by kernel_rfl) (fun _ _ _ h => h) (fun w' hC => run_op_load1 _ _ rfl (.slice 5) (by kernel_rfl) rfl _ rfl _ (by rw [hC.cell (p := ⟨g, o + k, none⟩) (Nat.lt_of_lt_of_le hg belz.size)]; exact hcl)) hS ?_
                    simp only [Act.put, List.setIfInBounds_toArray, List.set_cons_zero, List.set_cons_succ]
                    refine h_take 4 (.slice (some ⟨g2, o2, none⟩) m.length capM) rfl 90 rfl (by kernel_rfl) (by kernel_rfl) (by kernel_rfl) (by kernel_rfl) (fun _ _ _ h => h) (fun w' _ => by kernel_rfl) hS ?_
                    simp only [Act.put, List.setIfInBounds_toArray, List.set_cons_zero, List.set_cons_succ]
                    refine h_take 5 (.int .i64 (k : Int)) rfl 91 rfl (by kernel_rfl) (by kernel_rfl) (by kernel_rfl) (by kernel_rfl) (fun _ _ _ h => h) (fun w' _ => by kernel_rfl) hS ?_
                    simp only [Act.put, List.setIfInBounds_toArray, List.set_cons_zero, List.set_cons_succ]
                    refine h_take 6 (.pointer (some ⟨g2, o2 + k, none⟩)) rfl 92 rfl (by kernel_rfl) (by kernel_rfl) (by kernel_rfl) (by kernel_rfl) (fun _ _ _ h => h) (fun w' _ => run_op_index _ _ _ rfl 25 (by kernel_rfl) (by kernel_rfl) g2 o2 _ _ rfl .i64 k rfl hlt2 w') hS ?_
                    simp only [Act.put, List.setIfInBounds_toArray, List.set_cons_zero, List.set_cons_succ]
                    refine h_take 7 (.slice p2 x2.length c2) rfl 93 rfl (by kernel_rfl) (by kernel_rfl) (by kernel_rfl) (by kernel_rfl) (fun _ _ _ h => h) (fun w' hC => run_op_load1 _ _ rfl (.slice 5) (by kernel_rfl) rfl _ rfl _ (by rw [hC.cell (p := ⟨g2, o2 + k, none⟩) (Nat.lt_of_lt_of_le hg2 belz.size)]; exact hcm)) hS ?_
                    simp only [Act.put, List.setIfInBounds_toArray, List.set_cons_zero, List.set_cons_succ]
                    refine h_one (i := 8) (by kernel_rfl) (o_call rfl 94 rfl (by kernel_rfl) (run_op_call 10 _ _ rfl #[.slice p1 x1.length c1, .slice p2 x2.length c2] (by simp only [List.map_toArray, List.map_cons, List.map_nil]; rfl) Tryd.func10 (by kernel_rfl) (by kernel_rfl) wz) (same_any x1 x2 p1 p2 c1 c2 wz (HC1.out.below belz).rd (HC2.out.below belz).rd (by omega) (by omega)) ?_)
                    rintro e wy ⟨rfl, hBy⟩
                    generalize hdd : decide (x1 = x2) = dd
                    have HDD := Lib.hid hdd; clear hdd
                    refine ⟨_, rfl, hBy, ?_⟩
                    simp only [Act.put, List.setIfInBounds_toArray, List.set_cons_zero, List.set_cons_succ]
                    refine h_take 9 (.bool dd) rfl 13 rfl (by kernel_rfl) (by kernel_rfl) (by kernel_rfl) (by kernel_rfl) (fun _ _ _ h => h) (fun w' _ => by kernel_rfl) hBy ?_
                    simp only [Act.put, List.setIfInBounds_toArray, List.set_cons_zero, List.set_cons_succ]
                    refine wpAnyH_done (by kernel_rfl) ?_ _
                    have hbely : Below w4.heap.size w4 wy := below_step hbelz hbelz.size hBy
                    clear hS hcl hcm hBy hbelz belz hc1 hc2
                    go_wp2_with fail
                    go_roundw
                    case rel => exact ⟨⟨k + 1, by omega, by go_num, dd, rfl, ⟨fun h => ⟨HA.out, HLM.out, fun j hj => by
                      rcases Nat.lt_or_ge j k with hj1 | hj1
                      · exact HAL.out j hj1
                      · obtain rfl : j = k := by omega
                        rw [HE1.out, HE2.out]
                        exact of_decide_eq_true (HDD.out.trans h)⟩, fun h => by
                      rw [← HDD.out]
                      exact decide_eq_true (by rw [← HE1.out, ← HE2.out]; exact h.2.2 k (by omega))⟩⟩, hbely⟩
                    case measure => simp [intOf]; omega
                  · obtain rfl : k = l.length := by omega
                    have hdec : decide (ix = iy) = true := decide_eq_true (HXY.out.2 ⟨HA.out, list_ext HLM.out (fun i hi => HAL.out i hi)⟩)
                    go_wp2_with fail
                    refine (same_any ix iy p q cap cap2 wr (HXR.out.1.below hbel) (HXR.out.2.below hbel) hxl hyl).mono ?_
                    rw [hdec]
                    rintro e w5 ⟨rfl, hB5⟩
                    go_wp2_with fail
                    go_ret
                    exact ⟨rfl, below_step (below_step bel4 bel4.size hbel) (Nat.le_trans bel4.size hbel.size) hB5⟩
            · have hli : ((l.length : Int) == (m.length : Int)) = false := beq_eq_false_iff_ne.2 (by omega)
              have h0 : ApRel w4 a b l m (.int .i64 0) (.bool false) w4 := ⟨⟨0, by omega, rfl, false, rfl, ⟨fun h => (by cases h), fun h => absurd h.2.1 hlm⟩⟩, bel44⟩
              clear heq bel44 hlm
              go_wp2_with fail
              go_loopw [14, 13] (fun i v wr => ApRel w4 a b l m i v wr) (fun i _ _ => l.length - (intOf i).toNat)
              case atStart => exact h0
              case round =>
                clear h0
                obtain ⟨⟨k, hkn, rfl, sm, rfl, hsm⟩, hbel⟩ := hrel
                have HSM := Lib.hid hsm; clear hsm
                cases sm with
                | false =>
                  have hdec : decide (ix = iy) = false := decide_eq_false fun h => by
                    obtain ⟨e1, e2⟩ := HXY.out.1 h
                    have := HSM.out.2 ⟨e1, by rw [e2], fun j _ => by rw [e2]⟩
                    cases this
                  go_wp2_with fail
                  refine (same_any ix iy p q cap cap2 wr (HXR.out.1.below hbel) (HXR.out.2.below hbel) hxl hyl).mono ?_
                  rw [hdec]
                  rintro e w5 ⟨rfl, hB5⟩
                  go_wp2_with fail
                  go_ret
                  exact ⟨rfl, below_step (below_step bel4 bel4.size hbel) (Nat.le_trans bel4.size hbel.size) hB5⟩
                | true =>
                  obtain ⟨hab, hlm, hall⟩ := HSM.out.1 rfl
                  have HA := Lib.hid hab; clear hab
                  have HLM := Lib.hid hlm
                  have HAL := Lib.hid hall
                  clear hall hlm
                  by_cases hlt : k < l.length
                  · have hlt2 : k < m.length := by have := HLM.out; omega
                    obtain ⟨g, o, rfl, hg, hrows⟩ := HL.out.at_ (by omega)
                    obtain ⟨p1, c1, hc1, hcame1⟩ := hrows k hlt
                    obtain ⟨g2, o2, rfl, hg2, hrows2⟩ := HM.out.at_ (by omega)
                    obtain ⟨p2, c2, hc2, hcame2⟩ := hrows2 k hlt2
                    have belw : Below w.heap.size w wr := below_step bel4 bel4.size hbel
                    have ik1 : (k : Int) < (l.length : Int) := by omega
                    have hx1 := part_len l k hlt
                    have hx2 := part_len m k hlt2
                    have HC1 := Lib.hid hcame1; have HC2 := Lib.hid hcame2
                    clear hrows hrows2 hcame1 hcame2
                    generalize he1 : l.getD k [] = x1 at hc1 HC1 hx1
                    generalize he2 : m.getD k [] = x2 at hc2 HC2 hx2
                    have HE1 := Lib.hid he1; have HE2 := Lib.hid he2; clear he1 he2
                    go_wp2_with fail
                    have belz : Below w.heap.size w wr.drew := belw.trans ((Below.refl _ _).drew)
                    have hbelz : Below w4.heap.size w4 wr.drew := hbel.trans ((Below.refl _ _).drew)
                    refine wp_region_held (S := fun w' => Below wr.drew.heap.size wr.drew w') (by kernel_rfl) ?_
                    change wpAnyH _ _ _ _ _ _ _ _ wr.drew
                    clear belw hbel
                    generalize wr.drew = wz at belz hbelz ⊢
                    have hS : Below wz.heap.size wz wz := Below.refl _ _
                    have hcl : wz.cell? ⟨g, o + k, none⟩ = some (.slice p1 x1.length c1) := by rw [belz.cell (p := ⟨g, o + k, none⟩) hg]; exact hc1
                    have hcm : wz.cell? ⟨g2, o2 + k, none⟩ = some (.slice p2 x2.length c2) := by rw [belz.cell (p := ⟨g2, o2 + k, none⟩) hg2]; exact hc2
                    refine h_take 0 (.slice (some ⟨g, o, none⟩) l.length capL) rfl 86 rfl (by kernel_rfl) (by kernel_rfl) (by kernel_rfl) (by kernel_rfl) (fun _ _ _ h => h) (fun w' _ => by kernel_rfl) hS ?_
                    simp only [Act.put, List.setIfInBounds_toArray, List.set_cons_zero, List.set_cons_succ]
                    refine h_take 1 (.int .i64 (k : Int)) rfl 87 rfl (by kernel_rfl) (by kernel_rfl) (by kernel_rfl) (by kernel_rfl) (fun _ _ _ h => h) (fun w' _ => by kernel_rfl) hS ?_
                    simp only [Act.put, List.setIfInBounds_toArray, List.set_cons_zero, List.set_cons_succ]
                    refine h_take 2 (.pointer (some ⟨g, o + k, none⟩)) rfl 88 rfl (by kernel_rfl) (by kernel_rfl) (by kernel_rfl) (by kernel_rfl) (fun _ _ _ h => h) (fun w' _ => run_op_index _ _ _ rfl 25 (by kernel_rfl) (by kernel_rfl) g o _ _ rfl .i64 k rfl hlt w') hS ?_
                    simp only [Act.put, List.setIfInBounds_toArray, List.set_cons_zero, List.set_cons_succ]
                    refine h_take 3 (.slice p1 x1.length c1) rfl 89 rfl (by kernel_rfl) (by kernel_rfl) (by kernel_rfl) (by kernel_rfl) (fun _ _ _ h => h) (fun w' hC => run_op_load1 _ _ rfl (.slice 5) (by kernel_rfl) rfl _ rfl _ (by rw [hC.cell (p := ⟨g, o + k, none⟩) (Nat.lt_of_lt_of_le hg belz.size)]; exact hcl)) hS ?_
                    simp only [Act.put, List.setIfInBounds_toArray, List.set_cons_zero, List.set_cons_succ]
                    refine h_take 4 (.slice (some ⟨g2, o2, none⟩) m.length capM) rfl 90 rfl (by kernel_rfl) (by kernel_rfl) (by kernel_rfl) (by kernel_rfl) (fun _ _ _ h => h) (fun w' _ => by kernel_rfl) hS ?_
                    simp only [Act.put, List.setIfInBounds_toArray, List.set_cons_zero, List.set_cons_succ]
                    refine h_take 5 (.int .i64 (k : Int)) rfl 91 rfl (by kernel_rfl) (by kernel_rfl) (by kernel_rfl) (by kernel_rfl) (fun _ _ _ h => h) (fun w' _ => by kernel_rfl) hS ?_
                    simp only [Act.put, List.setIfInBounds_toArray, List.set_cons_zero, List.set_cons_succ]
                    refine h_take 6 (.pointer (some ⟨g2, o2 + k, none⟩)) rfl 92 rfl (by kernel_rfl) (by kernel_rfl) (by kernel_rfl) (by kernel_rfl) (fun _ _ _ h => h) (fun w' _ => run_op_index _ _ _ rfl 25 (by kernel_rfl) (by kernel_rfl) g2 o2 _ _ rfl .i64 k rfl hlt2 w') hS ?_
                    simp only [Act.put, List.setIfInBounds_toArray, List.set_cons_zero, List.set_cons_succ]
                    refine h_take 7 (.slice p2 x2.length c2) rfl 93 rfl (by kernel_rfl) (by kernel_rfl) (by kernel_rfl) (by kernel_rfl) (fun _ _ _ h => h) (fun w' hC => run_op_load1 _ _ rfl (.slice 5) (by kernel_rfl) rfl _ rfl _ (by rw [hC.cell (p := ⟨g2, o2 + k, none⟩) (Nat.lt_of_lt_of_le hg2 belz.size)]; exact hcm)) hS ?_
                    simp only [Act.put, List.setIfInBounds_toArray, List.set_cons_zero, List.set_cons_succ]
                    refine h_one (i := 8) (by kernel_rfl) (o_call rfl 94 rfl (by kernel_rfl) (run_op_call 10 _ _ rfl #[.slice p1 x1.length c1, .slice p2 x2.length c2] (by simp only [List.map_toArray, List.map_cons, List.map_nil]; rfl) Tryd.func10 (by kernel_rfl) (by kernel_rfl) wz) (same_any x1 x2 p1 p2 c1 c2 wz (HC1.out.below belz).rd (HC2.out.below belz).rd (by omega) (by omega)) ?_)
                    rintro e wy ⟨rfl, hBy⟩
                    generalize hdd : decide (x1 = x2) = dd
                    have HDD := Lib.hid hdd; clear hdd
                    refine ⟨_, rfl, hBy, ?_⟩
                    simp only [Act.put, List.setIfInBounds_toArray, List.set_cons_zero, List.set_cons_succ]
                    refine h_take 9 (.bool dd) rfl 13 rfl (by kernel_rfl) (by kernel_rfl) (by kernel_rfl) (by kernel_rfl) (fun _ _ _ h => h) (fun w' _ => by kernel_rfl) hBy ?_
                    simp only [Act.put, List.setIfInBounds_toArray, List.set_cons_zero, List.set_cons_succ]
                    refine wpAnyH_done (by kernel_rfl) ?_ _
                    have hbely : Below w4.heap.size w4 wy := below_step hbelz hbelz.size hBy
                    clear hS hcl hcm hBy hbelz belz hc1 hc2
                    go_wp2_with fail
                    go_roundw
                    case rel => exact ⟨⟨k + 1, by omega, by go_num, dd, rfl, ⟨fun h => ⟨HA.out, HLM.out, fun j hj => by
                      rcases Nat.lt_or_ge j k with hj1 | hj1
                      · exact HAL.out j hj1
                      · obtain rfl : j = k := by omega
                        rw [HE1.out, HE2.out]
                        exact of_decide_eq_true (HDD.out.trans h)⟩, fun h => by
                      rw [← HDD.out]
                      exact decide_eq_true (by rw [← HE1.out, ← HE2.out]; exact h.2.2 k (by omega))⟩⟩, hbely⟩
                    case measure => simp [intOf]; omega
                  · obtain rfl : k = l.length := by omega
                    have hdec : decide (ix = iy) = true := decide_eq_true (HXY.out.2 ⟨HA.out, list_ext HLM.out (fun i hi => HAL.out i hi)⟩)
                    go_wp2_with fail
                    refine (same_any ix iy p q cap cap2 wr (HXR.out.1.below hbel) (HXR.out.2.below hbel) hxl hyl).mono ?_
                    rw [hdec]
                    rintro e w5 ⟨rfl, hB5⟩
                    go_wp2_with fail
                    go_ret
                    exact ⟨rfl, below_step (below_step bel4 bel4.size hbel) (Nat.le_trans bel4.size hbel.size) hB5⟩

        · have hd1 : decide ((255 : Int) < (a.size : Int)) = false := decide_eq_false (by omega)
          have hd2 : decide ((255 : Int) < (l.length : Int)) = false := decide_eq_false (by omega)
          rcases hlb with h5 | ⟨h5, h6⟩
          · have hd3 : decide ((255 : Int) < (b.size : Int)) = true := decide_eq_true (by omega)
            go_wp2_with fail
            go_ret
            exact ⟨rfl, bel4⟩
          · have hd3 : decide ((255 : Int) < (b.size : Int)) = false := decide_eq_false (by omega)
            have hd4 : decide ((255 : Int) < (m.length : Int)) = true := decide_eq_true (by omega)
            go_wp2_with fail
            go_ret
            exact ⟨rfl, bel4⟩
      · go_wp2_with fail
        refine (img_any b m Q capM w3 (by omega) (HM.out.below bel3)).mono ?_
        rintro e w4 ⟨hy, hB4⟩
        have bel4 : Below w.heap.size w w4 := below_step bel3 bel3.size hB4
        rcases hy with ⟨sb1, sb2, q, cap2, rfl, hry⟩ | ⟨hlb, rfl⟩
        · have hd3 : decide ((255 : Int) < (b.size : Int)) = false := decide_eq_false (by omega)
          have hd4 : decide ((255 : Int) < (m.length : Int)) = false := decide_eq_false (by omega)
          rcases hla with h5 | ⟨h5, h6⟩
          · have hd1 : decide ((255 : Int) < (a.size : Int)) = true := decide_eq_true (by omega)
            go_wp2_with fail
            go_ret
            exact ⟨rfl, bel4⟩
          · have hd1 : decide ((255 : Int) < (a.size : Int)) = false := decide_eq_false (by omega)
            have hd2 : decide ((255 : Int) < (l.length : Int)) = true := decide_eq_true (by omega)
            go_wp2_with fail
            go_ret
            exact ⟨rfl, bel4⟩
        · rcases hla with h5 | ⟨h5, h6⟩
          · have hd1 : decide ((255 : Int) < (a.size : Int)) = true := decide_eq_true (by omega)
            rcases hlb with h7 | ⟨h7, h8⟩
            · have hd3 : decide ((255 : Int) < (b.size : Int)) = true := decide_eq_true (by omega)
              go_wp2_with fail
              go_ret
              exact ⟨rfl, bel4⟩
            · have hd3 : decide ((255 : Int) < (b.size : Int)) = false := decide_eq_false (by omega)
              have hd4 : decide ((255 : Int) < (m.length : Int)) = true := decide_eq_true (by omega)
              go_wp2_with fail
              go_ret
              exact ⟨rfl, bel4⟩
          · have hd1 : decide ((255 : Int) < (a.size : Int)) = false := decide_eq_false (by omega)
            have hd2 : decide ((255 : Int) < (l.length : Int)) = true := decide_eq_true (by omega)
            rcases hlb with h7 | ⟨h7, h8⟩
            · have hd3 : decide ((255 : Int) < (b.size : Int)) = true := decide_eq_true (by omega)
              go_wp2_with fail
              go_ret
              exact ⟨rfl, bel4⟩
            · have hd3 : decide ((255 : Int) < (b.size : Int)) = false := decide_eq_false (by omega)
              have hd4 : decide ((255 : Int) < (m.length : Int)) = true := decide_eq_true (by omega)
              go_wp2_with fail
              go_ret
              exact ⟨rfl, bel4⟩
end Go.Proofs.YtebfdbibeecncaaDoor.Tg
