/-
  The contracts of sha's Hasher: New and Write, over this seat's translation.
-/
import Derived.Test.YtebfdbibeecncaaDoorShaPlain
namespace Go.Proofs.YtebfdbibeecncaaDoor.Sha
open Go.ChangeShapes Go.WideShapes Go.ChangeAt Go.RowKit Go.Proofs.YtebfdbibeecncaaDoor.Num Go.Proofs.YtebfdbibeecncaaDoor.Mem Go.Proofs.YtebfdbibeecncaaDoor.Bt
set_option linter.unusedVariables false

/-- A new hasher. -/
structure NewPost (w : World) (e : Ending) (w' : World) : Prop where
  end_ : e = .returned (.pointer (some ⟨w.heap.size, 0, none⟩))
  row : Row w' w.heap.size 70 (hcells [])
  new : New w w'
theorem new_any (w : World) : Calls Tryd.prog 21 #[] w (NewPost w) := by
  go_enter Tryd.func21, Tryd.ntmps21
  go_wp2_with (first
    | (with_reducible refine arm_build (o := ⟨some 1, _, _, _, _, _⟩) rfl _ _ rfl (u32s H0.list) (by kernel_rfl) ?_)
    | (with_reducible refine arm_build (o := ⟨some 2, _, _, _, _, _⟩) rfl _ _ rfl (hcells []) (by kernel_rfl) ?_)
    | ((with_reducible refine arm_box (o := ⟨some 3, _, _, _, _, _⟩) rfl _ _ rfl (hcells []) rfl ?_); intro B w1 hB hR hN))
  have hb := hB.out
  subst hb
  go_ret
  exact ⟨rfl, hR, hN⟩
/-- A slice of these bytes: where there is one, its address. -/
structure Bytes (w : World) (p : Option Addr) (bs : List Nat) : Prop where
  at_ : bs ≠ [] → ∃ g o, p = some ⟨g, o, none⟩ ∧ w.rangeAt g o (u8s bs)
def sliceLen : Value → Nat
  | .slice _ n _ => n
  | _ => 0
/-- What holds at the head of Write's loop: the bytes ahead are taken, those behind are still to come. -/
structure WrRel (w : World) (B : Nat) (l bs : List Nat) (v : Value) (wr : World) : Prop where
  ex : ∃ pre post : List Nat, ∃ p : Option Addr, ∃ cap : Nat, bs = pre ++ post ∧ v = .slice p post.length cap ∧ post.length ≤ cap ∧ (post ≠ [] → ∃ g o, p = some ⟨g, o, none⟩ ∧ g ≠ B ∧ wr.rangeAt g o (u8s post)) ∧ Row wr B 70 (hcells (l ++ pre))
  only : Only B w wr

theorem wr_step {w wr w3 : World} {B g o cap tk : Nat} {l bs pre post : List Nat} {q2 : Option Addr} (hbs : bs = pre ++ post) (hR3 : Row w3 B 70 (hcells ((l ++ pre) ++ post.take tk))) (hO : Only B w wr) (hO' : Only B wr w3)
    (hrg : wr.rangeAt g o (u8s post)) (hgB : g ≠ B) (hpost : post ≠ []) (hq2 : tk < post.length → q2 = some ⟨g, o + tk, none⟩) (ht : tk ≤ post.length) (hc1 : post.length ≤ cap) : WrRel w B l bs (.slice q2 (post.length - tk) (cap - tk)) w3 := by
  refine ⟨⟨pre ++ post.take tk, post.drop tk, q2, cap - tk, ?_, ?_, ?_, ?_, ?_⟩, hO.trans hO'⟩
  · rw [hbs, List.append_assoc, List.take_append_drop]
  · rw [List.length_drop]
  · rw [List.length_drop]; omega
  · intro hne
    have hlt : tk < post.length := by
      rcases Nat.lt_or_ge tk post.length with h | h
      · exact h
      · exact absurd (List.drop_eq_nil_of_le h) hne
    refine ⟨g, o + tk, hq2 hlt, hgB, range_block (fun j v hj => ?_) (hO'.block g (range_lt hrg (by intro h; apply hpost; simpa [u8s] using h)) hgB)⟩
    rw [Nat.add_assoc]
    refine hrg (tk + j) v ?_
    unfold u8s at hj ⊢
    rw [List.getElem?_map, List.getElem?_drop] at hj
    rw [List.getElem?_map]; exact hj
  · rw [← List.append_assoc]; exact hR3

theorem field0 (b : Nat) (w : World) : (Instr.fieldAt 70 (.pointer (some ⟨b, 0, none⟩)) 0).run Tryd.prog w = .ok (.pointer (some ⟨b, 0, none⟩)) w := by kernel_rfl
theorem field1 (b : Nat) (w : World) : (Instr.fieldAt 70 (.pointer (some ⟨b, 0, none⟩)) 1).run Tryd.prog w = .ok (.pointer (some ⟨b, 8, none⟩)) w := by kernel_rfl

set_option maxHeartbeats 2000000 in
set_option maxRecDepth 100000 in
theorem write_any (l bs : List Nat) (B cap : Nat) (p : Option Addr) (w : World) (hr : Row w B 70 (hcells l)) (hl : AllLt 256 l) (hb : AllLt 256 bs) (hsz : l.length + bs.length ≤ 1000000) (hcap : bs.length ≤ cap)
    (hp : bs ≠ [] → ∃ g o, p = some ⟨g, o, none⟩ ∧ g ≠ B ∧ w.rangeAt g o (u8s bs)) (hk : w.rangeAt 1 0 (u32s ks)) (hkB : 1 ≠ B) :
    Calls Tryd.prog 22 #[.pointer (some ⟨B, 0, none⟩), .slice p bs.length cap] w fun e w' => e = .returned (.tuple #[]) ∧ Row w' B 70 (hcells (l ++ bs)) ∧ Only B w w' := by
  have h0 : WrRel w B l bs (.slice p bs.length cap) w := ⟨⟨[], bs, p, cap, rfl, rfl, hcap, hp, by rw [List.append_nil]; exact hr⟩, Only.refl _ _⟩
  have HKB := Lib.hid hkB
  have HK := Lib.hid hk
  have hk1 : 1 < w.heap.size := range_lt hk (by simp [u32s, ks])
  clear hr hp hk hkB hcap
  go_enter Tryd.func22, Tryd.ntmps22
  go_wp2_with fail
  go_loopw [1] (fun v wr => WrRel w B l bs v wr) (fun v _ => sliceLen v)
  case atStart => exact h0
  case round =>
    clear h0
    obtain ⟨⟨pre, post, q, cap', hbs, rfl, hc1, hq, hR⟩, hO⟩ := hrel
    by_cases hpost : post = []
    · subst hpost
      rw [List.append_nil] at hbs
      subst hbs
      clear hq
      rw [show (([] : List Nat).length) = 0 from rfl] at hc1 ⊢
      go_wp2_with fail
      go_end0
      exact ⟨rfl, hR, hO⟩
    · obtain ⟨g, o, rfl, hgB, hrg⟩ := hq hpost
      have hpos : 0 < post.length := List.length_pos_iff.2 hpost
      have hbl : bs.length = pre.length + post.length := by rw [hbs, List.length_append]
      have hLl : (l ++ pre).length = l.length + pre.length := List.length_append
      have hLlt : AllLt 256 (l ++ pre) := append_lt hl (fun x hx => hb x (by rw [hbs]; exact List.mem_append_left _ hx))
      have hplt : AllLt 256 post := fun x hx => hb x (by rw [hbs]; exact List.mem_append_right _ hx)
      have hLe : (l ++ pre).length + post.length ≤ 1000000 := by omega
      have HBS := Lib.hid hbs; clear hbs hbl hLl hq
      generalize hLg : l ++ pre = L at hR hLlt hLe
      have HL := Lib.hid hLg
      obtain ⟨tk, htk⟩ : ∃ tk : Nat, tk = Nat.min post.length (64 - L.length % 64) := ⟨_, rfl⟩
      have ht1 : tk ≤ post.length := by rw [htk]; exact Nat.min_le_left _ _
      have ht2 : L.length % 64 + tk ≤ 64 := by have : tk ≤ 64 - L.length % 64 := by rw [htk]; exact Nat.min_le_right _ _
                                               omega
      have ht3 : 0 < tk := by rw [htk]; exact Nat.lt_min.2 ⟨hpos, by omega⟩
      have hct : (post.take tk).length = tk := by rw [List.length_take]; omega
      have HT := Lib.hid htk; have HCT := Lib.hid hct; clear htk hct hLg
      have hcc := hR.cell (hcells_count L)
      have hrc : wr.rangeAt g o (u8s (post.take tk)) := fun j v hj => hrg j v (by
        have hj2 := (List.getElem?_eq_some_iff.1 hj).1
        rw [u8s_length, List.length_take] at hj2
        unfold u8s at hj ⊢
        rw [List.getElem?_map, List.getElem?_take, if_pos (by omega)] at hj
        rw [List.getElem?_map]; exact hj)
      have hneg : decide ((0 : Int) < (post.length : Int)) = true := decide_eq_true (by omega)
      by_cases hfull : L.length % 64 + tk = 64
      · have hz : ((((L.length : Int) + (tk : Int)) % 64) == 0) = true := beq_iff_eq.2 (by omega)
        clear hneg
        go_wp2_with (first
          | (with_reducible refine arm_sliceLow (o := ⟨some 18, _, _, _, _, _⟩) rfl _ _ _ rfl 64 5 (by kernel_rfl) (by kernel_rfl) B 8 rfl .u64 _ rfl (L.length % 64) (by omega) (by omega) ?_)
          | ((with_reducible refine arm_copy (o := ⟨some 20, _, _, _, _, _⟩) rfl _ _ _ _ rfl 5 (by kernel_rfl) (by kernel_rfl) B (8 + L.length % 64) _ _ rfl g o _ _ rfl (u8s (post.take tk)) tk (by rw [u8s_length, HCT.out]) HT.out hrc _ _ hR (by rw [u8s_length, HCT.out, hcells_len]; omega) (u8s_one _) ?_); intro w2 hR2 hO2 hS2; have hcc2 := hR2.cell (show (lay (hcells L) (8 + L.length % 64) (u8s (post.take tk)))[72]? = some (.int .u64 (L.length : Int)) from lay_count L _ (by rw [HCT.out]; exact ht2)))
          | ((with_reducible refine arm_store1 (o := ⟨none, _, _, _, _, _⟩) rfl _ _ _ rfl B 72 rfl .u64 _ rfl (by kernel_rfl) _ _ hR2 (by rw [lay_len L _ (by rw [HCT.out]; exact ht2)]; omega) ?_); intro w3 hR3 hO3 hS3; have hcc3 := hR3.cell (set_get _ _ 72 (by rw [lay_len L _ (by rw [HCT.out]; exact ht2)]; omega)))
          | ((with_reducible refine arm_reslice (o := ⟨some 32, _, _, _, _, _⟩) rfl _ _ _ rfl 5 (by kernel_rfl) (by kernel_rfl) g o _ _ rfl .i64 _ rfl tk rfl ht1 hc1 ?_); intro q2 hq2))
        have hR4 : Row w3 B 70 (hmid L (post.take tk)) := hR3.congr (by have := hc_mid L (post.take tk) (by rw [HCT.out]; exact hfull); rw [HCT.out] at this; exact this)
        have hO4 : Only B wr w3.drew := (hO2.trans hO3).trans (Only.of_below B ((Below.refl _ _).drew))
        have hRz : Row w3.drew B 70 (hmid L (post.take tk)) := hR4
        clear hR3 hR4 hcc hcc2 hcc3 hz hrc hR2 hO2 hO3 hS2 hS3
        refine wp_region_any (by kernel_rfl) ?_
        change wpAny _ _ _ _ _ _ _ w3.drew
        generalize w3.drew = wz at hRz hO4 ⊢
        have hmw : wz.rangeAt B 0 (u32s (stOf L).list) := hRz.range 0 _ (hmid_words L (post.take tk))
        have hkz : wz.rangeAt 1 0 (u32s ks) := range_block (range_block HK.out (hO.block _ hk1 HKB.out)) (hO4.block _ (Nat.lt_of_lt_of_le hk1 hO.size) HKB.out)
        have hml : wz.rangeAt B 8 (u8s (leftOf L ++ post.take tk)) := hRz.range 8 _ (hmid_left L (post.take tk))
        have hlf : (leftOf L ++ post.take tk).length = 64 := by rw [List.length_append, leftOf_len, HCT.out]; exact hfull
        have hlfb : AllLt 256 (leftOf L ++ post.take tk) := append_lt (leftOf_lt hLlt) (fun x hx => hplt x (List.mem_of_mem_take hx))
        refine wpAny_take0 (i := 0) (v := .pointer (some ⟨B, 0, none⟩)) rfl rfl 39 rfl (by kernel_rfl) (by kernel_rfl) (by kernel_rfl) (fun _ _ _ h => h) (run_op_move _ rfl _ rfl) ?_
        simp only [Act.put, List.setIfInBounds_toArray, List.set_cons_zero, List.set_cons_succ]
        refine wpAny_take0 (i := 1) (v := .pointer (some ⟨B, 0, none⟩)) rfl rfl 40 rfl (by kernel_rfl) (by kernel_rfl) (by kernel_rfl) (fun _ _ _ h => h) (run_op_move _ rfl _ rfl) ?_
        simp only [Act.put, List.setIfInBounds_toArray, List.set_cons_zero, List.set_cons_succ]
        refine wpAny_take0 (i := 2) (v := .pointer (some ⟨B, 0, none⟩)) rfl rfl 41 rfl (by kernel_rfl) (by kernel_rfl) (by kernel_rfl) (fun _ _ _ h => h) (run_op_nilCheck _ rfl _ rfl) ?_
        simp only [Act.put, List.setIfInBounds_toArray, List.set_cons_zero, List.set_cons_succ]
        refine wpAny_take0 (i := 3) (v := .pointer (some ⟨B, 0, none⟩)) rfl rfl 42 rfl (by kernel_rfl) (by kernel_rfl) (by kernel_rfl) (fun _ _ _ h => h) (run_op_field _ _ _ rfl _ _ rfl (field0 B)) ?_
        simp only [Act.put, List.setIfInBounds_toArray, List.set_cons_zero, List.set_cons_succ]
        refine wpAny_take0 (i := 5) (v := .pointer (some ⟨B, 0, none⟩)) rfl rfl 44 rfl (by kernel_rfl) (by kernel_rfl) (by kernel_rfl) (fun _ _ _ h => h) (run_op_move _ rfl _ rfl) ?_
        simp only [Act.put, List.setIfInBounds_toArray, List.set_cons_zero, List.set_cons_succ]
        refine wpAny_take0 (i := 6) (v := .pointer (some ⟨B, 0, none⟩)) rfl rfl 45 rfl (by kernel_rfl) (by kernel_rfl) (by kernel_rfl) (fun _ _ _ h => h) (run_op_nilCheck _ rfl _ rfl) ?_
        simp only [Act.put, List.setIfInBounds_toArray, List.set_cons_zero, List.set_cons_succ]
        refine wpAny_take0 (i := 7) (v := .pointer (some ⟨B, 8, none⟩)) rfl rfl 46 rfl (by kernel_rfl) (by kernel_rfl) (by kernel_rfl) (fun _ _ _ h => h) (run_op_field _ _ _ rfl _ _ rfl (field1 B)) ?_
        simp only [Act.put, List.setIfInBounds_toArray, List.set_cons_zero, List.set_cons_succ]
        refine wpAny_pair (i := 4) (j := 8) (vi := .agg (u32s (stOf L).list).toArray) (vj := .agg (u8s (leftOf L ++ post.take tk)).toArray) rfl rfl (by kernel_rfl) (by kernel_rfl) (by kernel_rfl) (by omega) rfl rfl 43 47 rfl rfl (by kernel_rfl) (by kernel_rfl)
          (run_op_load _ _ rfl B 0 rfl _ hmw (by rw [u32s_length, list_len]; exact sz40)) (run_op_load _ _ rfl B 8 rfl _ hml (by rw [u8s_length, hlf]; exact sz42)) ?_
        simp only [Act.put, List.setIfInBounds_toArray, List.set_cons_zero, List.set_cons_succ]
        refine wpAny_one (i := 9) (by kernel_rfl) (wpOp_call 48 rfl rfl rfl (run_op_call 26 _ _ rfl #[.agg (u32s (stOf L).list).toArray, .agg (u8s (leftOf L ++ post.take tk)).toArray] (by simp only [List.map_toArray, List.map_cons, List.map_nil]; rfl) Tryd.func26 (by kernel_rfl) (by kernel_rfl) wz) (mixed_any (stOf L) _ wz (stOf_bd L) hlf hlfb hkz) ?_)
        rintro e w5 ⟨rfl, hN5⟩
        refine ⟨_, rfl, ?_⟩
        simp only [Act.put, List.setIfInBounds_toArray, List.set_cons_zero, List.set_cons_succ]
        refine wpAny_take0 (i := 10) (v := .pointer (some ⟨B, 0, none⟩)) rfl rfl 49 rfl (by kernel_rfl) (by kernel_rfl) (by kernel_rfl) (fun _ _ _ h => h) (run_op_nilCheck _ rfl _ rfl) ?_
        simp only [Act.put, List.setIfInBounds_toArray, List.set_cons_zero, List.set_cons_succ]
        refine wpAny_take0 (i := 11) (v := .pointer (some ⟨B, 0, none⟩)) rfl rfl 50 rfl (by kernel_rfl) (by kernel_rfl) (by kernel_rfl) (fun _ _ _ h => h) (run_op_field _ _ _ rfl _ _ rfl (field0 B)) ?_
        simp only [Act.put, List.setIfInBounds_toArray, List.set_cons_zero, List.set_cons_succ]
        refine wpAny_one (i := 12) (by kernel_rfl) (wpOp_skip rfl rfl rfl (run_op_store _ _ _ rfl B 0 rfl (u32s (comp (stOf L) (leftOf L ++ post.take tk)).list) rfl _ _ (hRz.old hN5) (by rw [u32s_length, list_len, hmid_len _ _ (by rw [HCT.out]; exact hfull)]; omega) (u32s_one _) (by rw [u32s_length, list_len]; exact sz40)) ?_)
        refine wpAny_done (by kernel_rfl) ?_ _
        have hR6 : Row (w5.setRow B (lay (hmid L (post.take tk)) 0 (u32s (comp (stOf L) (leftOf L ++ post.take tk)).list)).toArray) B 70 (lay (hmid L (post.take tk)) 0 (u32s (comp (stOf L) (leftOf L ++ post.take tk)).list)) := row_setRow (hRz.old hN5) _
        have hO6 : Only B wr (w5.setRow B (lay (hmid L (post.take tk)) 0 (u32s (comp (stOf L) (leftOf L ++ post.take tk)).list)).toArray) := (hO4.trans (Only.of_below B hN5)).trans (Only.setRow _ _ _)
        have hl6 : (lay (hmid L (post.take tk)) 0 (u32s (comp (stOf L) (leftOf L ++ post.take tk)).list)).length = 73 := by
          unfold lay
          rw [List.take_zero, List.nil_append, List.length_append, List.length_drop, u32s_length, list_len, hmid_len _ _ (by rw [HCT.out]; exact hfull)]
        have HL6 := Lib.hid hl6
        clear hRz hO4 hmw hml hlf hlfb hkz hl6
        generalize w5.setRow B (lay (hmid L (post.take tk)) 0 (u32s (comp (stOf L) (leftOf L ++ post.take tk)).list)).toArray = w6 at hR6 hO6 ⊢
        clear hN5 w5 wz
        go_wp2_with (first
          | (with_reducible refine arm_build (o := ⟨some 52, _, _, _, _, _⟩) rfl _ _ rfl (u8s (List.replicate 64 0)) (by kernel_rfl) ?_)
          | ((with_reducible refine arm_store (o := ⟨none, _, _, _, _, _⟩) rfl _ _ _ rfl B 8 rfl (u8s (List.replicate 64 0)) rfl _ _ hR6 (by rw [u8s_length, List.length_replicate, HL6.out]; omega) (u8s_one _) (by rw [u8s_length, List.length_replicate]; exact sz42) ?_); intro w7 hR7 hO7 hS7))
        simp only [Act.put]
        go_roundw
        case rel => exact wr_step HBS.out (by rw [HL.out]; exact hR7.congr (hc_full L (post.take tk) (by rw [HCT.out]; exact hfull))) hO (hO6.trans hO7) hrg hgB hpost hq2.out ht1 hc1
        case measure => simp only [sliceLen]; omega
      · have hz : ((((L.length : Int) + (tk : Int)) % 64) == 0) = false := beq_eq_false_iff_ne.2 (by omega)
        clear hneg
        go_wp2_with (first
          | (with_reducible refine arm_sliceLow (o := ⟨some 18, _, _, _, _, _⟩) rfl _ _ _ rfl 64 5 (by kernel_rfl) (by kernel_rfl) B 8 rfl .u64 _ rfl (L.length % 64) (by omega) (by omega) ?_)
          | ((with_reducible refine arm_copy (o := ⟨some 20, _, _, _, _, _⟩) rfl _ _ _ _ rfl 5 (by kernel_rfl) (by kernel_rfl) B (8 + L.length % 64) _ _ rfl g o _ _ rfl (u8s (post.take tk)) tk (by rw [u8s_length, HCT.out]) HT.out hrc _ _ hR (by rw [u8s_length, HCT.out, hcells_len]; omega) (u8s_one _) ?_); intro w2 hR2 hO2 hS2; have hcc2 := hR2.cell (show (lay (hcells L) (8 + L.length % 64) (u8s (post.take tk)))[72]? = some (.int .u64 (L.length : Int)) from lay_count L _ (by rw [HCT.out]; exact ht2)))
          | ((with_reducible refine arm_store1 (o := ⟨none, _, _, _, _, _⟩) rfl _ _ _ rfl B 72 rfl .u64 _ rfl (by kernel_rfl) _ _ hR2 (by rw [lay_len L _ (by rw [HCT.out]; exact ht2)]; omega) ?_); intro w3 hR3 hO3 hS3; have hcc3 := hR3.cell (set_get _ _ 72 (by rw [lay_len L _ (by rw [HCT.out]; exact ht2)]; omega)))
          | ((with_reducible refine arm_reslice (o := ⟨some 32, _, _, _, _, _⟩) rfl _ _ _ rfl 5 (by kernel_rfl) (by kernel_rfl) g o _ _ rfl .i64 _ rfl tk rfl ht1 hc1 ?_); intro q2 hq2))
        go_roundw
        case rel => exact wr_step HBS.out (by rw [HL.out]; exact hR3.congr (by have := hc_keep L (post.take tk) (by rw [HCT.out]; omega); rw [HCT.out] at this; exact this)) hO (hO2.trans hO3) hrg hgB hpost hq2.out ht1 hc1
        case measure => simp only [sliceLen]; omega
end Go.Proofs.YtebfdbibeecncaaDoor.Sha
