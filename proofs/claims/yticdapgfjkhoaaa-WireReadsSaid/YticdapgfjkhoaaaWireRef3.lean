/-
  The contracts of the document's reader of layer 4 (Text, Hash), over this seat's translation.
-/
import Derived.Test.YticdapgfjkhoaaaWireRef2
namespace Go.Proofs.Yticdapgfjkhoaaa.Wi
open Go.ChangeShapes Go.WideShapes Go.ChangeAt Go.RowKit Go.Proofs.Yticdapgfjkhoaaa.Mem Go.Proofs.Yticdapgfjkhoaaa.Bt Go.Proofs.Yticdapgfjkhoaaa.Tg
set_option linter.unusedVariables false
set_option linter.unusedSimpArgs false

theorem takeR_none (B : List Nat) (a e k : Nat) (h : (takeR k (absR B a e)).2.2 ≠ 0) : (takeR k (absR B a e)).1 = [] := by
  by_cases he : e = 0
  · subst he
    rw [absR_ok] at h ⊢
    unfold takeR at h ⊢
    split at h
    · simp at h
    · rename_i h2; rw [if_neg h2]
  · rw [absR_bad B a e he, takeR_bad k e he]
theorem RfAt.none {w : World} {S D k : Nat} {s : RS} (h : RfAt w S D s) (hn : (numR k s).2.2 ≠ 0) : (numR k s).1 = 0 := by
  obtain ⟨p, cap, B, a, e, h, ha, _⟩ := h.ex
  subst ha
  have := takeR_none B a e k hn
  unfold numR
  rw [this]
  rfl
/-- What the document's Text leaves. -/
structure RfText (w : World) (S D : Nat) (bs : List Nat) (s : RS) (e : Ending) (w' : World) : Prop where
  ex : ∃ q c, e = .returned (.slice q bs.length c) ∧ Rd w' q bs
  at_ : RfAt w' S D s
  only : Only S w w'
set_option maxHeartbeats 1000000 in
set_option maxRecDepth 100000 in
theorem fText_any (m : Int) (S D : Nat) (s : RS) (w : World) (h : RfAt w S D s) (hm0 : 0 ≤ m) :
    Calls Try.prog 22 #[.pointer (some ⟨S, 0, none⟩), .int .i64 m] w (RfText w S D (textR m s).1 (textR m s).2) := by
  have hlt := numR_lt (k := 1) h.lt
  have HNN := Lib.hid (fun hn => h.none (k := 1) hn)
  have H := Lib.hid h; clear h
  by_cases hb : (numR 1 s).2.2 = 0 ∧ m < ((numR 1 s).1 : Int)
  · have HT : Hid (textR m s = ([], ([], 4))) := Lib.hid (by unfold textR failed; rw [if_pos hb.2, if_pos hb.1])
    rw [HT.out]
    go_enter Try.func22, Try.ntmps22
    go_wp2_with fail
    refine (fNumber_any 1 S D s w H.out (by omega)).mono ?_
    rintro e w1 ⟨rfl, hA, hO⟩
    obtain ⟨p, cap, B, at_, e, hR, habs, hBl⟩ := hA.ex
    have he : e = 0 := by
      have h1 := hb.1
      rw [← habs] at h1
      by_cases h2 : e = 0
      · exact h2
      · rw [absR_bad B at_ e h2] at h1; exact h1
    subst he
    have hc2 : w1.cell? ⟨S, 2, none⟩ = some (.int .i64 0) := hR.row.cell rfl
    have hd : decide (m < ((numR 1 s).1 : Int)) = true := decide_eq_true hb.2
    have HR := Lib.hid hR
    generalize (numR 1 s).1 = n at hlt hd ⊢
    clear hb HT hA habs hR
    go_wp2_with (first
      | ((with_reducible refine arm_storeV (o := ⟨none, .store 43 _ _, _, _, _, _⟩) rfl _ _ _ rfl S 2 rfl _ rfl rfl (by kernel_rfl) _ _ HR.out.row (by unfold fcells; rw [List.length_cons, List.length_cons, List.length_singleton]; omega) ?_); intro w2 hR2 hO2 hZ2))
    have hA2 : RfAt w2 S D ([], 4) := ⟨p, cap, B, at_, 4, ⟨hR2, Rd_only HR.out.rd HR.out.row (fcells_no _ _ _ _ _) hO2, HR.out.le, HR.out.nil_, HR.out.lt, HR.out.at_le, HR.out.low, Nat.le_trans HR.out.dle hO2.size⟩, rfl, hBl⟩
    clear hR2 hZ2 hc2
    refine (fTake_any n S D ([], 4) w2 hA2 (by omega)).mono ?_
    rintro e w3 ⟨⟨q, c, rfl, hrd, _⟩, hA3, hO3⟩
    rw [takeR_bad n 4 (by omega)] at hrd hA3 ⊢
    go_wp2_with fail
    go_ret
    exact ⟨⟨q, c, rfl, hrd⟩, hA3, (hO.trans hO2).trans hO3⟩
  · have HT : Hid (textR m s = takeR (numR 1 s).1 (numR 1 s).2) := Lib.hid (by
      unfold textR
      rw [if_neg]
      intro h
      by_cases h2 : (numR 1 s).2.2 = 0
      · exact hb ⟨h2, h⟩
      · rw [HNN.out h2] at h; omega)
    rw [HT.out]
    go_enter Try.func22, Try.ntmps22
    go_wp2_with fail
    refine (fNumber_any 1 S D s w H.out (by omega)).mono ?_
    rintro e w1 ⟨rfl, hA, hO⟩
    have HA := Lib.hid hA
    obtain ⟨p, cap, B, at_, e, hR, habs, hBl⟩ := hA.ex
    have hc2 : w1.cell? ⟨S, 2, none⟩ = some (.int .i64 (e : Int)) := hR.row.cell rfl
    have hcase : e ≠ 0 ∨ (e = 0 ∧ ¬ m < ((numR 1 s).1 : Int)) := by
      by_cases h2 : e = 0
      · right
        refine ⟨h2, fun h => hb ⟨?_, h⟩⟩
        rw [← habs, h2, absR_ok]
      · exact .inl h2
    generalize hn : (numR 1 s).1 = n at hlt hcase ⊢
    have HN := Lib.hid hn
    clear hb HT hA habs hR hn HNN
    rcases hcase with h1 | ⟨rfl, h2⟩
    · have hz : ((e : Int) == 0) = false := by simp; omega
      clear h1
      go_wp2_with fail
      refine (fTake_any n S D _ w1 HA.out (by omega)).mono ?_
      rintro e2 w3 ⟨⟨q, c, rfl, hrd, _⟩, hA3, hO3⟩
      go_wp2_with fail
      go_ret
      rw [HN.out]
      exact ⟨⟨q, c, rfl, hrd⟩, hA3, hO.trans hO3⟩
    · have hd : decide (m < (n : Int)) = false := decide_eq_false h2
      clear h2
      go_wp2_with fail
      refine (fTake_any n S D _ w1 HA.out (by omega)).mono ?_
      rintro e2 w3 ⟨⟨q, c, rfl, hrd, _⟩, hA3, hO3⟩
      go_wp2_with fail
      go_ret
      rw [HN.out]
      exact ⟨⟨q, c, rfl, hrd⟩, hA3, hO.trans hO3⟩
theorem set_next (t zs : List Nat) (j : Nat) (h : j < t.length) (hz : j < zs.length) : (t.take j ++ zs.drop j).set j (t.getD j 0) = t.take (j + 1) ++ zs.drop (j + 1) := by
  have h1 : (t.take j).length = j := by rw [List.length_take]; omega
  rw [List.set_append_right _ _ (by omega), h1, Nat.sub_self, List.drop_eq_getElem_cons hz, List.set_cons_zero, take_snoc t j h, List.append_assoc]
  rfl
theorem u8s_set (l : List Nat) (j y : Nat) : (u8s l).set j (.int .u8 (y : Int)) = u8s (l.set j y) := by
  unfold u8s; rw [List.map_set]
/-- What holds in Hash's loop. -/
structure HhRel (w : World) (B : Nat) (t zs : List Nat) (i : Value) (wr : World) : Prop where
  ex : ∃ j : Nat, j ≤ t.length ∧ i = .int .i64 j ∧ Row wr B 30 (u8s (t.take j ++ zs.drop j))
  only : Only B w wr
theorem z_arr : Mem.Zero Try.prog 30 (u8s (List.replicate 32 0)) := by unfold Mem.Zero; kernel_rfl
theorem sz_arr : Sized Try.prog 30 32 := ⟨.array 32 5, by kernel_rfl, rfl, by kernel_rfl⟩
theorem built_arr : Try.prog.built 30 [] = some (u8s (List.replicate 32 0)).toArray := by kernel_rfl
theorem hash_end (s : RS) : (takeR 32 s).1 ++ (List.replicate 32 0).drop (takeR 32 s).1.length = (hashR s).1 := by
  unfold hashR takeR
  by_cases h : 32 ≤ s.1.length
  · simp only [if_pos h]
    rw [List.drop_eq_nil_of_le (by rw [List.length_replicate, List.length_take]; omega), List.append_nil]
  · simp only [if_neg h]
    rfl
set_option maxHeartbeats 1000000 in
set_option maxRecDepth 100000 in
theorem fHash_any (S D : Nat) (s : RS) (w : World) (h : RfAt w S D s) :
    Calls Try.prog 20 #[.pointer (some ⟨S, 0, none⟩)] w (RfPost w S D (.agg (u8s (hashR s).1).toArray) (hashR s).2) := by
  have hSl := h.row_lt
  have hDl := h.dle
  have H := Lib.hid h; clear h
  obtain ⟨zs, hzs⟩ : ∃ zs : List Nat, zs = List.replicate 32 0 := ⟨_, rfl⟩
  have HZ := Lib.hid hzs
  have hzl : zs.length = 32 := by rw [hzs]; simp
  have HZL := Lib.hid hzl
  have HZ0 : Hid (Mem.Zero Try.prog 30 (u8s zs)) := Lib.hid (by rw [hzs]; exact z_arr)
  have HZB : Hid (Try.prog.built 30 [] = some (u8s zs).toArray) := Lib.hid (by rw [hzs]; exact built_arr)
  clear hzs hzl
  go_enter Try.func20, Try.ntmps20
  go_wp2_with (first
    | ((with_reducible refine at_slot 2 ?_); (refine arm_alloc (o := ⟨some 2, _, _, _, _, _⟩) rfl _ rfl _ HZ0.out ?_); intro T w1 hT hR1 hN1)
    | ((with_reducible refine at_slot 6 ?_); (refine arm_build (o := ⟨some 6, _, _, _, _, _⟩) rfl _ _ rfl (u8s zs) (by rw [HZ.out]; kernel_rfl) ?_))
    | ((with_reducible refine at_slot 3 ?_); (refine arm_alloc (o := ⟨some 3, _, _, _, _, _⟩) rfl _ rfl _ HZ0.out ?_); intro B w2 hB hR2 hN2)
    | ((with_reducible refine arm_store (o := ⟨none, .store 30 _ _, _, _, _, _⟩) rfl _ _ _ rfl B 0 rfl (u8s zs) rfl _ _ hR2 (by rw [u8s_length]; omega) (u8s_one _) (by rw [u8s_length, HZL.out]; exact sz_arr) ?_); intro w3 hR3 hO3 hS3))
  have eT := hT.out; have eB := hB.out; have s1 := hN1.size; have s2 := hN2.size; have s3 := hS3.out
  have bel2 : Below w.heap.size w w2 := below_step hN1.below hN1.below.size hN2.below
  have bel3 : Below w.heap.size w w3 := below_only bel2 hO3 (by omega) (by omega)
  have hT3 : Row w3 T 30 (u8s zs) := (hR1.old hN2.below).only hO3 (by omega)
  have hB3 : Row w3 B 30 (u8s zs) := hR3.congr (lay_all _ _ rfl)
  have hA3 := H.out.old bel3
  have lT : w.heap.size ≤ T := by omega
  have lB : w.heap.size ≤ B := by omega
  have HNE : Hid (T ≠ S ∧ B ≠ S ∧ T ≠ B ∧ B < w3.heap.size) := Lib.hid ⟨by omega, by omega, by omega, by omega⟩
  clear eT eB s1 s2 s3 hT hB hR1 hN1 hR2 hN2 hR3 hO3 hS3 bel2 hSl
  refine (fTake_any 32 S D s w3 hA3 (by omega)).mono ?_
  rintro e y1 ⟨⟨q, c, rfl, hrd, hnil, hq⟩, hA1, hO1⟩
  have hB1 := hB3.only hO1 HNE.out.2.1
  have hT1 := hT3.only hO1 HNE.out.1
  have hlen := takeR_len 32 s
  have HE := Lib.hid (hash_end s)
  have HA1 : Hid (RfAt y1 S D (hashR s).2) := Lib.hid hA1
  have HHL := Lib.hid (hashR_len s)
  have hOa : Only S w y1 := (Only.of_below S bel3).trans hO1
  rw [← HZ.out] at HE
  have HRD := Lib.hid hrd
  have HQ : Hid (∀ j, blk q = some j → j ≠ B) := Lib.hid (fun j hj => by have := hq j hj; have := HNE.out.2.2.2; omega)
  clear hrd hnil hq hA1 hO1 hB3 hT3 hA3 bel3
  generalize (takeR 32 s).1 = t at HRD hlen HE ⊢
  generalize hhv : (hashR s).1 = hv at HE HHL
  have HHV := Lib.hid hhv; clear hhv
  have h0 : HhRel y1 B t zs (.int .i64 0) y1 := ⟨⟨0, by omega, rfl, by rw [List.take_zero, List.nil_append, List.drop_zero]; exact hB1⟩, Only.refl _ _⟩
  clear hB1
  go_wp2_with fail
  go_loopw [5] (fun i wr => HhRel y1 B t zs i wr) (fun i _ => t.length - (intOf i).toNat)
  case atStart => exact h0
  case round =>
    clear h0
    obtain ⟨⟨j, hj, rfl, hRB⟩, hOB⟩ := hrel
    by_cases hlt : j < t.length
    · obtain ⟨g, o, rfl, hc⟩ := HRD.out.cell hlt
      have hgB : g ≠ B := HQ.out g rfl
      have hcw : wr.cell? ⟨g, o + j, none⟩ = some (.int .u8 ((t.getD j 0 : Nat) : Int)) := by
        rw [World.cell?_of_block (w := y1) (a := ⟨g, o + j, none⟩) (hOB.block g (block_lt_of_cell hc) hgB)]; exact hc
      have ij : (j : Int) < (t.length : Int) := by omega
      have ij32 : (j : Int) < 32 := by omega
      have HSN := Lib.hid (set_next t zs j hlt (by have := HZL.out; omega))
      have HLL : Hid ((u8s (t.take j ++ zs.drop j)).length = 32) := Lib.hid (by rw [u8s_length, List.length_append, List.length_take, List.length_drop, HZL.out]; omega)
      clear hc hgB
      generalize t.getD j 0 = y at hcw HSN
      go_wp2_with (first
        | ((with_reducible refine arm_storeV (o := ⟨none, .store 5 _ _, _, _, _, _⟩) rfl _ _ _ rfl B j rfl (.int .u8 (y : Int)) rfl rfl (by kernel_rfl) _ _ hRB (by rw [HLL.out]; omega) ?_); intro w5 hR5 hO5 hS5))
      go_roundw
      case rel => exact ⟨⟨j + 1, by omega, by go_num, hR5.congr (by rw [u8s_set, HSN.out])⟩, hOB.trans hO5⟩
      case measure => simp [intOf]; omega
    · obtain rfl : j = t.length := by omega
      rw [List.take_of_length_le (Nat.le_refl _), HE.out] at hRB
      have hTw := hT1.only hOB HNE.out.2.2.1
      go_wp2_with (first
        | ((with_reducible refine at_slot 21 ?_); (refine arm_load (o := ⟨some 21, _, _, _, _, _⟩) rfl _ _ rfl B 0 rfl (u8s hv) (hRB.range 0 _ (fun j v hj => by rw [Nat.zero_add]; exact hj)) (by rw [u8s_length, HHL.out]; exact sz_arr) ?_))
        | ((with_reducible refine arm_store (o := ⟨none, _, _, _, _, _⟩) rfl _ _ _ rfl T 0 rfl (u8s hv) rfl _ _ hTw (by rw [u8s_length, u8s_length, HHL.out, HZL.out]; omega) (u8s_one _) (by rw [u8s_length, HHL.out]; exact sz_arr) ?_); intro w4 hR4 hO4 hS4))
      refine bodyPost_ret (v := .agg (u8s hv).toArray) (result_row (p := 2) (ty := 30) (u := 30) (by kernel_rfl) _ _ T _ rfl (hR4.congr (lay_all _ _ (by rw [u8s_length, u8s_length, HHL.out, HZL.out]))) (by rw [u8s_length, HHL.out]; exact sz_arr)) rfl ⟨by rw [HHV.out], ?_, only_new (only_new hOa hOB lB) hO4 lT⟩
      exact (HA1.out.other hOB (Ne.symm HNE.out.2.1) (by omega)).other hO4 (Ne.symm HNE.out.1) (by omega)
end Go.Proofs.Yticdapgfjkhoaaa.Wi
