/-
  The contracts of wire's Reader.Text, and of the document's Take and Text, with what they answer as bytes of their own, so that their room is told. Over this seat's translation.
-/
import Derived.Test.YtghogoijjaiccaaWireAll
import Derived.Test.YtghogoijjaiccaaWireRefAll
namespace Go.Proofs.Ytghogoijjaiccaa.Wi
open Go.ChangeShapes Go.WideShapes Go.ChangeAt Go.RowKit Go.Proofs.Ytghogoijjaiccaa.Mem Go.Proofs.Ytghogoijjaiccaa.Bt Go.Proofs.Ytghogoijjaiccaa.Tg
set_option linter.unusedVariables false
set_option linter.unusedSimpArgs false

structure TextPost2 (w : World) (R d : Nat) (bs : List Nat) (s : RS) (e : Ending) (w' : World) : Prop where
  ex : ∃ q c, e = .returned (.slice q bs.length c) ∧ Own w' 0 q c bs
  at_ : RdAt w' R d s
  only : Only R w w'
set_option maxHeartbeats 1000000 in
set_option maxRecDepth 100000 in
theorem rText2_any (m : Int) (R d : Nat) (s : RS) (w : World) (h : RdAt w R d s) (hm : s.1.length ≤ 1000000) :
    Calls Try.prog 74 #[.pointer (some ⟨R, 0, none⟩), .int .i64 m] w (TextPost2 w R d (textR m s).1 (textR m s).2) := by
  have hlt := numR_lt (k := 1) h.lt
  have H := Lib.hid h; clear h
  have hle : (numR 1 s).2.1.length ≤ 1000000 := Nat.le_trans (takeR_left 1 s) hm
  by_cases hb : m < ((numR 1 s).1 : Int)
  · have HT : Hid (textR m s = ([], ([], failed (numR 1 s).2.2 4))) := Lib.hid (by unfold textR; rw [if_pos hb])
    rw [HT.out]
    go_enter Try.func74, Try.ntmps74
    go_wp2_with fail
    refine (rByte_any R d s w H.out hm).mono ?_
    rintro e w1 ⟨rfl, hA, hO⟩
    have hd : decide (m < ((numR 1 s).1 : Int)) = true := decide_eq_true hb
    generalize (numR 1 s).1 = n at hlt hd ⊢
    clear hb HT
    go_wp2_with fail
    refine (rFail_any 4 R d _ w1 hA).mono ?_
    rintro e w2 ⟨rfl, hA2, hO2⟩
    go_wp2_with fail
    go_ret
    exact ⟨⟨none, 0, rfl, own_nil _ _⟩, hA2, hO.trans hO2⟩
  · have HT : Hid (textR m s = takeR (numR 1 s).1 (numR 1 s).2) := Lib.hid (by unfold textR; rw [if_neg hb])
    rw [HT.out]
    go_enter Try.func74, Try.ntmps74
    go_wp2_with fail
    refine (rByte_any R d s w H.out hm).mono ?_
    rintro e w1 ⟨rfl, hA, hO⟩
    have hd : decide (m < ((numR 1 s).1 : Int)) = false := decide_eq_false (by omega)
    generalize hn : (numR 1 s).1 = n at hlt hd ⊢
    have HN := Lib.hid hn
    clear hb HT hn
    go_wp2_with fail
    refine (rTake_any n R d _ w1 hA (by omega) hle).mono ?_
    rintro e w2 ⟨⟨q, c, rfl, hrd, hnil⟩, hA2, hO2⟩
    have hl2 := takeR_len n (numR 1 s).2
    have HRD := Lib.hid hrd; have HNIL := Lib.hid hnil; have HA2 := Lib.hid hA2
    clear hrd hnil hA2
    go_wp2_with fail
    refine (clone_any _ q c w2 HRD.out HNIL.out (by omega)).mono ?_
    rintro e w3 ⟨⟨q3, c3, rfl, hO3⟩, hB3⟩
    go_wp2_with fail
    go_ret
    rw [HN.out]
    exact ⟨⟨q3, c3, rfl, own_mono hO3 (Nat.zero_le _)⟩, HA2.out.old hB3, (hO.trans hO2).trans (Only.of_below R hB3)⟩
structure RfTake2 (w : World) (S D k : Nat) (s : RS) (e : Ending) (w' : World) : Prop where
  ex : ∃ q c, e = .returned (.slice q (takeR k s).1.length c) ∧ Own w' 0 q c (takeR k s).1
  at_ : RfAt w' S D (takeR k s).2
  only : Only S w w'
structure RfText2 (w : World) (S D : Nat) (bs : List Nat) (s : RS) (e : Ending) (w' : World) : Prop where
  ex : ∃ q c, e = .returned (.slice q bs.length c) ∧ Own w' 0 q c bs
  at_ : RfAt w' S D s
  only : Only S w w'
set_option maxHeartbeats 1000000 in
set_option maxRecDepth 100000 in
theorem fTake2_any (k S D : Nat) (s : RS) (w : World) (h : RfAt w S D s) (hk : k ≤ 1000000) :
    Calls Try.prog 52 #[.pointer (some ⟨S, 0, none⟩), .int .i64 (k : Int)] w (RfTake2 w S D k s) := by
  obtain ⟨p, cap, B, at_, e, h, habs, hBl⟩ := h.ex
  have H := Lib.hid h
  have hc2 : w.cell? ⟨S, 2, none⟩ = some (.int .i64 (e : Int)) := h.row.cell rfl
  have hle := h.le
  have hal := h.at_le
  by_cases he : e = 0
  · subst he
    have hc0 : w.cell? ⟨S, 0, none⟩ = some (.slice p B.length cap) := h.row.cell rfl
    have hc1 : w.cell? ⟨S, 1, none⟩ = some (.int .i64 (at_ : Int)) := h.row.cell rfl
    clear h
    rw [absR_ok] at habs
    subst habs
    by_cases hs : k ≤ B.length - at_
    · have hd : decide ((B.length : Int) - (at_ : Int) < (k : Int)) = false := decide_eq_false (by omega)
      have HT : Hid (takeR k (B.drop at_, 0) = ((B.drop at_).take k, (B.drop (at_ + k), 0))) := Lib.hid (by unfold takeR; rw [if_pos (by simpa using hs)]; simp [List.drop_drop])
      go_enter Try.func52, Try.ntmps52
      go_wp2_with fail
      go_quiet (fail)
      go_wp2_with fail
      have hRz : Row (w.drewN nq).drew S 91 (fcells p B.length cap at_ 0) := H.out.row
      have hRdz : Rd (w.drewN nq).drew p B := H.out.rd.below ((below_drewN _ _ _).trans ((Below.refl _ _).drew))
      have bz : Below w.heap.size w (w.drewN nq).drew := (below_drewN _ _ _).trans ((Below.refl _ _).drew)
      clear hc0 hc1 hc2
      refine wp_region_held (S := fun w' => Row w' S 91 (fcells p B.length cap at_ 0)) (by kernel_rfl) ?_
      change wpAnyH _ _ _ _ _ _ _ _ (w.drewN nq).drew
      generalize (w.drewN nq).drew = wz at hRz hRdz bz ⊢
      refine h_take 1 (.pointer (some ⟨S, 0, none⟩)) rfl 27 rfl (by kernel_rfl) (by kernel_rfl) (by kernel_rfl) (by kernel_rfl) (fun _ _ _ h => h) (fun w' _ => by kernel_rfl) hRz ?_
      simp only [Act.put, List.setIfInBounds_toArray, List.set_cons_zero, List.set_cons_succ]
      refine h_take 2 (.pointer (some ⟨S, 0, none⟩)) rfl 28 rfl (by kernel_rfl) (by kernel_rfl) (by kernel_rfl) (by kernel_rfl) (fun _ _ _ h => h) (fun w' _ => by kernel_rfl) hRz ?_
      simp only [Act.put, List.setIfInBounds_toArray, List.set_cons_zero, List.set_cons_succ]
      refine h_take 3 (.pointer (some ⟨S, 0, none⟩)) rfl 29 rfl (by kernel_rfl) (by kernel_rfl) (by kernel_rfl) (by kernel_rfl) (fun _ _ _ h => h) (fun w' _ => by kernel_rfl) hRz ?_
      simp only [Act.put, List.setIfInBounds_toArray, List.set_cons_zero, List.set_cons_succ]
      refine h_take 4 (.slice p B.length cap) rfl 30 rfl (by kernel_rfl) (by kernel_rfl) (by kernel_rfl) (by kernel_rfl) (fun _ _ _ h => h) (fun w' hC => run_op_load1 _ _ rfl (.slice 5) (by kernel_rfl) rfl _ rfl _ (hC.cell rfl)) hRz ?_
      simp only [Act.put, List.setIfInBounds_toArray, List.set_cons_zero, List.set_cons_succ]
      refine h_take 5 (.pointer (some ⟨S, 0, none⟩)) rfl 31 rfl (by kernel_rfl) (by kernel_rfl) (by kernel_rfl) (by kernel_rfl) (fun _ _ _ h => h) (fun w' _ => by kernel_rfl) hRz ?_
      simp only [Act.put, List.setIfInBounds_toArray, List.set_cons_zero, List.set_cons_succ]
      refine h_take 6 (.pointer (some ⟨S, 0, none⟩)) rfl 32 rfl (by kernel_rfl) (by kernel_rfl) (by kernel_rfl) (by kernel_rfl) (fun _ _ _ h => h) (fun w' _ => by kernel_rfl) hRz ?_
      simp only [Act.put, List.setIfInBounds_toArray, List.set_cons_zero, List.set_cons_succ]
      refine h_take 7 (.pointer (some ⟨S, 1, none⟩)) rfl 33 rfl (by kernel_rfl) (by kernel_rfl) (by kernel_rfl) (by kernel_rfl) (fun _ _ _ h => h) (fun w' _ => by kernel_rfl) hRz ?_
      simp only [Act.put, List.setIfInBounds_toArray, List.set_cons_zero, List.set_cons_succ]
      refine h_take 8 (.int .i64 (at_ : Int)) rfl 34 rfl (by kernel_rfl) (by kernel_rfl) (by kernel_rfl) (by kernel_rfl) (fun _ _ _ h => h) (fun w' hC => run_op_load1 _ _ rfl (.int .i64) (by kernel_rfl) rfl _ rfl _ (hC.cell rfl)) hRz ?_
      simp only [Act.put, List.setIfInBounds_toArray, List.set_cons_zero, List.set_cons_succ]
      refine h_take 9 (.pointer (some ⟨S, 0, none⟩)) rfl 35 rfl (by kernel_rfl) (by kernel_rfl) (by kernel_rfl) (by kernel_rfl) (fun _ _ _ h => h) (fun w' _ => by kernel_rfl) hRz ?_
      simp only [Act.put, List.setIfInBounds_toArray, List.set_cons_zero, List.set_cons_succ]
      refine h_take 10 (.pointer (some ⟨S, 0, none⟩)) rfl 36 rfl (by kernel_rfl) (by kernel_rfl) (by kernel_rfl) (by kernel_rfl) (fun _ _ _ h => h) (fun w' _ => by kernel_rfl) hRz ?_
      simp only [Act.put, List.setIfInBounds_toArray, List.set_cons_zero, List.set_cons_succ]
      refine h_take 11 (.pointer (some ⟨S, 1, none⟩)) rfl 37 rfl (by kernel_rfl) (by kernel_rfl) (by kernel_rfl) (by kernel_rfl) (fun _ _ _ h => h) (fun w' _ => by kernel_rfl) hRz ?_
      simp only [Act.put, List.setIfInBounds_toArray, List.set_cons_zero, List.set_cons_succ]
      refine h_take 12 (.int .i64 (at_ : Int)) rfl 38 rfl (by kernel_rfl) (by kernel_rfl) (by kernel_rfl) (by kernel_rfl) (fun _ _ _ h => h) (fun w' hC => run_op_load1 _ _ rfl (.int .i64) (by kernel_rfl) rfl _ rfl _ (hC.cell rfl)) hRz ?_
      simp only [Act.put, List.setIfInBounds_toArray, List.set_cons_zero, List.set_cons_succ]
      refine h_take 13 (.int .i64 (k : Int)) rfl 39 rfl (by kernel_rfl) (by kernel_rfl) (by kernel_rfl) (by kernel_rfl) (fun _ _ _ h => h) (fun w' _ => by kernel_rfl) hRz ?_
      simp only [Act.put, List.setIfInBounds_toArray, List.set_cons_zero, List.set_cons_succ]
      refine h_take 14 (.int .i64 ((at_ : Int) + (k : Int))) rfl 40 rfl (by kernel_rfl) (by kernel_rfl) (by kernel_rfl) (by kernel_rfl) (fun _ _ _ h => h) (fun w' _ => run_op_add _ _ _ _ rfl (at_ : Int) (k : Int) rfl rfl (wrap_small (by omega) (by omega)) w') hRz ?_
      simp only [Act.put, List.setIfInBounds_toArray, List.set_cons_zero, List.set_cons_succ]
      refine h_take 15 (.slice (onP p at_ cap) (at_ + k - at_) (cap - at_)) rfl 41 rfl (by kernel_rfl) (by kernel_rfl) (by kernel_rfl) (by kernel_rfl) (fun _ _ _ h => h) (fun w' _ => run_op_mid _ _ _ _ rfl 5 (by kernel_rfl) (by kernel_rfl) p B.length cap rfl .i64 .i64 (at_ : Int) ((at_ : Int) + (k : Int)) rfl rfl at_ (at_ + k) rfl (by omega) (by omega) (by omega) w') hRz ?_
      simp only [Act.put, List.setIfInBounds_toArray, List.set_cons_zero, List.set_cons_succ]
      refine h_one (i := 0) (by kernel_rfl) (o_value _ rfl 26 rfl (by kernel_rfl) (run_op_bs0 rfl wz) ?_)
      have hN1 := new_alloc wz (.cells #[] 5)
      have hR1 : Row (wz.alloc (.cells #[] 5)) wz.heap.size 5 [] := heap_alloc_new _ _
      generalize hb1 : wz.heap.size = b1 at hR1
      generalize wz.alloc (.cells #[] 5) = y1 at hN1 hR1 ⊢
      have hS1 := hRz.old hN1.below
      refine ⟨hS1, ?_⟩
      have hO1 : Own y1 b1 (some ⟨b1, 0, none⟩) 0 [] := own_new hR1 (Nat.le_refl _)
      have hrd1 : Rd y1 (onP p at_ cap) ((B.drop at_).take k) := Rd_take (Rd_drop (hRdz.below hN1.below) at_ hle) k
      have hlk : ((B.drop at_).take k).length = k := by rw [List.length_take, List.length_drop]; omega
      simp only [Act.put, List.setIfInBounds_toArray, List.set_cons_zero, List.set_cons_succ]
      have HB1 := Lib.hid hb1; clear hb1
      refine h_one (i := 16) (by kernel_rfl) (o_append rfl 42 rfl (by kernel_rfl) _ _ rfl b1 (some ⟨b1, 0, none⟩) 0 0 [] rfl rfl hO1 (onP p at_ cap) (at_ + k - at_) (cap - at_) ((B.drop at_).take k) rfl (by rw [hlk]; omega) (fun e => by have h1 := H.out.nil_ (onP_eq_none e); omega) hrd1.at_ (by rw [hlk, List.length_nil]; omega) (by have := HB1.out; have := hN1.below.size; omega) ?_)
      intro p2 cap2 y2 hO2 hS2
      have hR2 : Row y2 S 91 (fcells p B.length cap at_ 0) := hS1.of_block (hS2.block S hS1.lt (by simp) (fun e => by have h1 : b1 = S := Option.some.inj e; have := HB1.out; have := hRz.lt; omega))
      refine ⟨hR2, ?_⟩
      simp only [Act.put, List.setIfInBounds_toArray, List.set_cons_zero, List.set_cons_succ]
      have bz2 : Below wz.heap.size wz y2 := hN1.below.trans (hS2.below (fun j hj => by cases hj) (fun j hj => by have h1 : b1 = j := Option.some.inj hj; have := HB1.out; omega) hN1.below.size)
      have bw2 : Below w.heap.size w y2 := below_step bz bz.size bz2
      rw [List.nil_append] at hO2
      have hsl : 0 + (at_ + k - at_) = k := by omega
      rw [hsl]
      refine h_take 17 (.slice p2 k cap2) rfl 5 rfl (by kernel_rfl) (by kernel_rfl) (by kernel_rfl) (by kernel_rfl) (fun _ _ _ h => h) (fun w' _ => by kernel_rfl) hR2 ?_
      simp only [Act.put, List.setIfInBounds_toArray, List.set_cons_zero, List.set_cons_succ]
      refine wpAnyH_done (by kernel_rfl) ?_ _
      have hc1 : y2.cell? ⟨S, 1, none⟩ = some (.int .i64 (at_ : Int)) := hR2.cell rfl
      have HB1' : w.heap.size ≤ b1 := by have := HB1.out; have := bz.size; omega
      clear hRz hRdz bz hN1 hR1 hS1 hO1 hrd1 hS2 bz2 HB1
      go_wp2_with (first
        | ((with_reducible refine arm_storeV (o := ⟨none, .store 3 _ _, _, _, _, _⟩) rfl _ _ _ rfl S 1 rfl _ rfl rfl (by kernel_rfl) _ _ hR2 (by unfold fcells; rw [List.length_cons, List.length_cons, List.length_singleton]; omega) ?_); intro y3 hR3 hO3 hZ3))
      go_ret
      have hO : Only S w y3 := (Only.of_below S bw2).trans hO3
      have hO2' := own_step hO2 (Step.of_only S none hO3) (fun j hj => by simp [blk] at hj) (fun j hj => by rw [← Option.some.inj hj]; exact row_not_own hR2 (by decide) hO2)
      refine ⟨⟨p2, cap2, by rw [HT.out, hlk]; rfl, by rw [HT.out]; exact own_mono hO2' (Nat.zero_le _)⟩, ⟨p, cap, B, at_ + k, 0, ⟨?_, Rd_only H.out.rd H.out.row (fcells_no _ _ _ _ _) hO, hle, H.out.nil_, H.out.lt, by omega, H.out.low, Nat.le_trans H.out.dle hO.size⟩, by rw [HT.out, absR_ok], hBl⟩, hO⟩
      have e3 : fcells p B.length cap (at_ + k) 0 = (fcells p B.length cap at_ 0).set 1 (.int .i64 ((at_ : Int) + (k : Int))) := by unfold fcells; simp
      rw [e3]
      exact hR3
    · have hd : decide ((B.length : Int) - (at_ : Int) < (k : Int)) = true := decide_eq_true (by omega)
      have HT : Hid (takeR k (B.drop at_, 0) = ([], ([], 3))) := Lib.hid (takeR_short _ k (by rw [List.length_drop]; omega))
      go_enter Try.func52, Try.ntmps52
      go_wp2_with fail
      go_quiet (fail)
      go_wp2_with (first
        | ((with_reducible refine arm_storeV (o := ⟨none, .store 45 _ _, _, _, _, _⟩) rfl _ _ _ rfl S 2 rfl _ rfl rfl (by kernel_rfl) _ _ H.out.row.drewN (by unfold fcells; rw [List.length_cons, List.length_cons, List.length_singleton]; omega) ?_); intro w1 hR1 hO1 hZ1))
      go_ret
      have hO : Only S w w1 := (Only.drewN S w _).trans hO1
      exact ⟨⟨none, 0, by rw [HT.out]; rfl, by rw [HT.out]; exact own_nil _ _⟩, ⟨p, cap, B, at_, 3, ⟨hR1, Rd_only H.out.rd H.out.row (fcells_no _ _ _ _ _) hO, hle, H.out.nil_, H.out.lt, hal, H.out.low, Nat.le_trans H.out.dle hO.size⟩, by rw [HT.out]; rfl, hBl⟩, hO⟩
  · have hz : ((e : Int) != 0) = true := by simp; omega
    clear h
    rw [absR_bad B at_ e he] at habs
    subst habs
    have HT := Lib.hid (takeR_bad k e he)
    have HE := Lib.hid he; clear he
    go_enter Try.func52, Try.ntmps52
    go_wp2_with fail
    go_ret
    exact ⟨⟨none, 0, by rw [HT.out]; rfl, by rw [HT.out]; exact own_nil _ _⟩, ⟨p, cap, B, at_, e, H.out, by rw [HT.out, absR_bad B at_ e HE.out], hBl⟩, Only.refl _ _⟩
set_option maxHeartbeats 1000000 in
set_option maxRecDepth 100000 in
theorem fText2_any (m : Int) (S D : Nat) (s : RS) (w : World) (h : RfAt w S D s) (hm0 : 0 ≤ m) :
    Calls Try.prog 55 #[.pointer (some ⟨S, 0, none⟩), .int .i64 m] w (RfText2 w S D (textR m s).1 (textR m s).2) := by
  have hlt := numR_lt (k := 1) h.lt
  have HNN := Lib.hid (fun hn => h.none (k := 1) hn)
  have H := Lib.hid h; clear h
  by_cases hb : (numR 1 s).2.2 = 0 ∧ m < ((numR 1 s).1 : Int)
  · have HT : Hid (textR m s = ([], ([], 4))) := Lib.hid (by unfold textR failed; rw [if_pos hb.2, if_pos hb.1])
    rw [HT.out]
    go_enter Try.func55, Try.ntmps55
    go_wp2_with fail
    refine (fNumber_any 1 S D s w H.out (by omega)).mono ?_
    rintro e w1 ⟨rfl, hA, hO⟩
    obtain ⟨p, cap, B, at_, e, hR, habs, hBl⟩ := hA.ex
    have he : e = 0 := by
      have h1 := hb.1
      rw [← habs] at h1
      by_cases h2 : e = 0
      · exact h2
      · rw [absR_bad B at_ e h2] at h1; exact h1
    subst he
    have hc2 : w1.cell? ⟨S, 2, none⟩ = some (.int .i64 0) := hR.row.cell rfl
    have hd : decide (m < ((numR 1 s).1 : Int)) = true := decide_eq_true hb.2
    have HR := Lib.hid hR
    generalize (numR 1 s).1 = n at hlt hd ⊢
    clear hb HT hA habs hR
    go_wp2_with (first
      | ((with_reducible refine arm_storeV (o := ⟨none, .store 45 _ _, _, _, _, _⟩) rfl _ _ _ rfl S 2 rfl _ rfl rfl (by kernel_rfl) _ _ HR.out.row (by unfold fcells; rw [List.length_cons, List.length_cons, List.length_singleton]; omega) ?_); intro w2 hR2 hO2 hZ2))
    have hA2 : RfAt w2 S D ([], 4) := ⟨p, cap, B, at_, 4, ⟨hR2, Rd_only HR.out.rd HR.out.row (fcells_no _ _ _ _ _) hO2, HR.out.le, HR.out.nil_, HR.out.lt, HR.out.at_le, HR.out.low, Nat.le_trans HR.out.dle hO2.size⟩, rfl, hBl⟩
    clear hR2 hZ2 hc2
    refine (fTake2_any n S D ([], 4) w2 hA2 (by omega)).mono ?_
    rintro e w3 ⟨⟨q, c, rfl, hrd⟩, hA3, hO3⟩
    rw [takeR_bad n 4 (by omega)] at hrd hA3 ⊢
    go_wp2_with fail
    go_ret
    exact ⟨⟨q, c, rfl, hrd⟩, hA3, (hO.trans hO2).trans hO3⟩
  · have HT : Hid (textR m s = takeR (numR 1 s).1 (numR 1 s).2) := Lib.hid (by
      unfold textR
      rw [if_neg]
      intro h
      by_cases h2 : (numR 1 s).2.2 = 0
      · exact hb ⟨h2, h⟩
      · rw [HNN.out h2] at h; omega)
    rw [HT.out]
    go_enter Try.func55, Try.ntmps55
    go_wp2_with fail
    refine (fNumber_any 1 S D s w H.out (by omega)).mono ?_
    rintro e w1 ⟨rfl, hA, hO⟩
    have HA := Lib.hid hA
    obtain ⟨p, cap, B, at_, e, hR, habs, hBl⟩ := hA.ex
    have hc2 : w1.cell? ⟨S, 2, none⟩ = some (.int .i64 (e : Int)) := hR.row.cell rfl
    have hcase : e ≠ 0 ∨ (e = 0 ∧ ¬ m < ((numR 1 s).1 : Int)) := by
      by_cases h2 : e = 0
      · right
        refine ⟨h2, fun h => hb ⟨?_, h⟩⟩
        rw [← habs, h2, absR_ok]
      · exact .inl h2
    generalize hn : (numR 1 s).1 = n at hlt hcase ⊢
    have HN := Lib.hid hn
    clear hb HT hA habs hR hn HNN
    rcases hcase with h1 | ⟨rfl, h2⟩
    · have hz : ((e : Int) == 0) = false := by simp; omega
      clear h1
      go_wp2_with fail
      refine (fTake2_any n S D _ w1 HA.out (by omega)).mono ?_
      rintro e2 w3 ⟨⟨q, c, rfl, hrd⟩, hA3, hO3⟩
      go_wp2_with fail
      go_ret
      rw [HN.out]
      exact ⟨⟨q, c, rfl, hrd⟩, hA3, hO.trans hO3⟩
    · have hd : decide (m < (n : Int)) = false := decide_eq_false h2
      clear h2
      go_wp2_with fail
      refine (fTake2_any n S D _ w1 HA.out (by omega)).mono ?_
      rintro e2 w3 ⟨⟨q, c, rfl, hrd⟩, hA3, hO3⟩
      go_wp2_with fail
      go_ret
      rw [HN.out]
      exact ⟨⟨q, c, rfl, hrd⟩, hA3, hO.trans hO3⟩
end Go.Proofs.Ytghogoijjaiccaa.Wi
