import Derived.Test.YtnjmocobncncdaaGreatDoorStoRefA
import Derived.LoopTactic
import Derived.Test.YtnjmocobncncdaaGreatDoorStoDo
import Derived.Test.YtnjmocobncncdaaGreatDoorFitAll
/-
  The contract of the document's less, of layer 19. Over this seat's translation.
-/
namespace Go.Proofs.YtnjmocobncncdaaGreatDoor.So
open Go.ChangeShapes Go.WideShapes Go.ChangeAt Go.RowKit Go.Proofs.YtnjmocobncncdaaGreatDoor.Mem Go.Proofs.YtnjmocobncncdaaGreatDoor.Bt
open Go.Proofs.YtnjmocobncncdaaGreatDoor.Ep (H32 zh zh_ok Has h_len szH zH fitH allH one_app)
open Go.Proofs.YtnjmocobncncdaaGreatDoor.Sl (Kind At bk)
open Go.Proofs.YtnjmocobncncdaaGreatDoor.Sa (Sta scs digS)
open Go.Proofs.YtnjmocobncncdaaGreatDoor.Od (Ky kcs kRK fRK keyN kcs_len k33)
open Go.Proofs.YtnjmocobncncdaaGreatDoor.Lk (kR fR)
set_option linter.unusedVariables false
set_option linter.unusedSimpArgs false

def dK (s : Sta) : List Nat := (keyN s).hash
theorem built_h0 : Tryz.prog.built 32 [] = some (u8s zh).toArray := by kernel_rfl
theorem has_pin (pl : Option Addr) (n cl : Nat) (pk : Option Addr) (m ck r : Nat) (pin : Option (List Nat)) : Has (ncs pl n cl pk m ck r pin) 4 (u8s (pin.getD zh)) := ⟨[.slice pl n cl, .slice pk m ck, .int .i64 (r : Int), .bool pin.isSome], [], by rw [List.append_nil]; rfl, rfl⟩
theorem sz_slR : (Tryz.prog.info? 65).map (·.size) = some 1 := by kernel_rfl
theorem sz_slRK : (Tryz.prog.info? 66).map (·.size) = some 1 := by kernel_rfl
theorem lt_ncs (k : Nat) (hk : k < 4) (pl : Option Addr) (n cl : Nat) (pk : Option Addr) (m ck r : Nat) (pin : Option (List Nat)) : k < (ncs pl n cl pk m ck r pin).length := by simp [ncs]; omega
structure RLessPost (w : World) (F : Nat → Prop) (S r : Nat) (pin : Option (List Nat)) (L : List Sta) (e : Ending) (w' : World) : Prop where
  ret : e = .returned (.tuple #[.agg (u8s (((less dK r pin L).2.map dK).getD zh)).toArray, .bool (less dK r pin L).2.isSome])
  at_ : ∃ F', RSAt w' F' S r pin (less dK r pin L).1 ∧ Grew F F' w.heap.size
  chg : Chg F w w'
theorem rs_done {w y : World} {F : Nat → Prop} {S r cl ck : Nat} {pin : Option (List Nat)} {M : List Sta} {p q : Option Addr} (hS : Row y S 68 (ncs p M.length cl q M.length ck r pin)) (hL : Sl.Own kR y 0 p cl M) (hK : Sl.Own kRK y 0 q ck (M.map keyN)) (hf : From (fun k => bk p = some k) w.heap.size) (hg : From (fun k => bk q = some k) w.heap.size) (hpo : ∀ p, pin = some p → H32 p) (hli : Lies F w) (hs : w.heap.size ≤ y.heap.size) (fS : F S) : ∃ F', RSAt y F' S r pin M ∧ Grew F F' w.heap.size :=
  ⟨fun k => F k ∨ bk p = some k ∨ bk q = some k, ⟨⟨p, cl, q, ck, hS, hL, hK, .inl fS, fun k e => .inr (.inl e), fun k e => .inr (.inr e)⟩, hpo, fun k e => e.elim (fun e => by have := hli k e; omega) (fun e => e.elim (fun e => (hL.ge e).2) (fun e => (hK.ge e).2))⟩, fun k e => e.imp id (fun e => e.elim (hf k) (hg k))⟩
set_option maxHeartbeats 4000000 in
set_option maxRecDepth 100000 in
theorem rsless_any (F : Nat → Prop) (S r : Nat) (pin : Option (List Nat)) (L : List Sta) (w : World) (hC : RSAt w F S r pin L) (hl : L.length ≤ 1000) (h2 : 2 ≤ r) :
    Calls Tryz.prog 28 #[.pointer (some ⟨S, 0, none⟩)] w (RLessPost w F S r pin L) := by
  obtain ⟨⟨pl, cl, pk, ck, hS0, hOL, hOK, fS, fl, fk⟩, hpo, hli⟩ := hC
  have FL := Lib.hid fl; have FK := Lib.hid fk; have FS := Lib.hid fS; have PO := Lib.hid hpo; have HLI := Lib.hid hli; have HL := Lib.hid hl; have H2 := Lib.hid h2
  clear fl fk fS hpo hli hl h2
  by_cases hr : L.length ≤ r
  · have d1 : decide ((L.length : Int) ≤ (r : Int)) = true := decide_eq_true (by omega)
    have HLE := Lib.hid (less_room (d := dK) (pin := pin) hr)
    clear hr
    go_enter Tryz.func28, Tryz.ntmps28
    have bel0 : Chg F w w := Chg.refl _ _
    go_wp2_with (first
      | ((with_reducible refine at_slot 2 ?_); (refine arm_alloc (o := ⟨some 2, _, _, _, _, _⟩) rfl _ rfl (u8s zh) zH ?_); intro R v1 Re hv1 nv1; try simp only [Act.put, List.setIfInBounds_toArray, List.set_cons_zero, List.set_cons_succ]))
    have hbv1 := nv1.below
    have rrv1 : Row v1 R 32 (u8s zh) := hv1
    have geR : w.heap.size ≤ R := by have := Re.out; have := bel0.size; omega
    have lRx : w.heap.size ≤ R := by have := Re.out; omega
    clear hv1 nv1 Re
    have S_2 : Row v1 S 68 (ncs pl L.length cl pk L.length ck r pin) := hS0.old hbv1
    have OL_2 : Sl.Own kR v1 0 pl cl L := hOL.below hbv1
    have OK_2 : Sl.Own kRK v1 0 pk ck (L.map keyN) := hOK.below hbv1
    have bel_2 : Chg F w v1 := bel0.old hbv1
    clear hS0 hOL hOK bel0 hbv1
    refine wp_region_held (S := fun w' => Row w' S 68 (ncs pl L.length cl pk L.length ck r pin) ∧ True) (by kernel_rfl) ?_
    change wpAnyH _ _ _ _ _ _ _ _ v1.drew
    have hd3 : Below v1.heap.size v1 v1.drew := (Below.refl _ _).drew
    have S_4 : Row v1.drew S 68 (ncs pl L.length cl pk L.length ck r pin) := S_2.old hd3
    have OL_4 : Sl.Own kR v1.drew 0 pl cl L := OL_2.below hd3
    have OK_4 : Sl.Own kRK v1.drew 0 pk ck (L.map keyN) := OK_2.below hd3
    have R_4 : Row v1.drew R 32 (u8s zh) := rrv1.old hd3
    have bel_4 : Chg F w v1.drew := bel_2.old hd3
    clear S_2 OL_2 OK_2 rrv1 bel_2 hd3
    generalize v1.drew = yz3 at S_4 OL_4 OK_4 R_4 bel_4 ⊢
    refine h_take 0 (.pointer (some ⟨S, 0, none⟩)) rfl 6 rfl (by kernel_rfl) (by kernel_rfl) (by kernel_rfl) (by kernel_rfl) (fun _ _ _ h => h) (fun w' _ => by kernel_rfl) ⟨S_4, trivial⟩ ?_
    simp only [Act.put, List.setIfInBounds_toArray, List.set_cons_zero, List.set_cons_succ]
    refine h_take 1 (.pointer (some ⟨S, 0, none⟩)) rfl 7 rfl (by kernel_rfl) (by kernel_rfl) (by kernel_rfl) (by kernel_rfl) (fun _ _ _ h => h) (fun w' _ => by kernel_rfl) ⟨S_4, trivial⟩ ?_
    simp only [Act.put, List.setIfInBounds_toArray, List.set_cons_zero, List.set_cons_succ]
    refine h_take 2 (.pointer (some ⟨S, 0, none⟩)) rfl 8 rfl (by kernel_rfl) (by kernel_rfl) (by kernel_rfl) (by kernel_rfl) (fun _ _ _ h => h) (fun w' _ => by kernel_rfl) ⟨S_4, trivial⟩ ?_
    simp only [Act.put, List.setIfInBounds_toArray, List.set_cons_zero, List.set_cons_succ]
    refine h_take 3 (.slice pl L.length cl) rfl 9 rfl (by kernel_rfl) (by kernel_rfl) (by kernel_rfl) (by kernel_rfl) (fun _ _ _ h => h) (fun w' hw => run_op_load1 _ _ rfl (.slice 55) fR.und rfl ⟨S, 0, none⟩ rfl (.slice pl L.length cl) (hw.1.cell (i := 0) rfl)) ⟨S_4, trivial⟩ ?_
    simp only [Act.put, List.setIfInBounds_toArray, List.set_cons_zero, List.set_cons_succ]
    refine h_take 4 (.int .i64 (L.length : Int)) rfl 10 rfl (by kernel_rfl) (by kernel_rfl) (by kernel_rfl) (by kernel_rfl) (fun _ _ _ h => h) (fun w' _ => Sl.run_op_lenK _ _ _ rfl fR.und _ _ _ rfl w') ⟨S_4, trivial⟩ ?_
    simp only [Act.put, List.setIfInBounds_toArray, List.set_cons_zero, List.set_cons_succ]
    refine h_take 5 (.pointer (some ⟨S, 0, none⟩)) rfl 11 rfl (by kernel_rfl) (by kernel_rfl) (by kernel_rfl) (by kernel_rfl) (fun _ _ _ h => h) (fun w' _ => by kernel_rfl) ⟨S_4, trivial⟩ ?_
    simp only [Act.put, List.setIfInBounds_toArray, List.set_cons_zero, List.set_cons_succ]
    refine h_take 6 (.pointer (some ⟨S, 0, none⟩)) rfl 12 rfl (by kernel_rfl) (by kernel_rfl) (by kernel_rfl) (by kernel_rfl) (fun _ _ _ h => h) (fun w' _ => by kernel_rfl) ⟨S_4, trivial⟩ ?_
    simp only [Act.put, List.setIfInBounds_toArray, List.set_cons_zero, List.set_cons_succ]
    refine h_take 7 (.pointer (some ⟨S, 2, none⟩)) rfl 13 rfl (by kernel_rfl) (by kernel_rfl) (by kernel_rfl) (by kernel_rfl) (fun _ _ _ h => h) (fun w' _ => by kernel_rfl) ⟨S_4, trivial⟩ ?_
    simp only [Act.put, List.setIfInBounds_toArray, List.set_cons_zero, List.set_cons_succ]
    refine h_take 8 (.int .i64 (r : Int)) rfl 14 rfl (by kernel_rfl) (by kernel_rfl) (by kernel_rfl) (by kernel_rfl) (fun _ _ _ h => h) (fun w' hw => run_op_load1 _ _ rfl (.int .i64) (by kernel_rfl) rfl ⟨S, 2, none⟩ rfl (.int .i64 (r : Int)) (hw.1.cell (i := 2) rfl)) ⟨S_4, trivial⟩ ?_
    simp only [Act.put, List.setIfInBounds_toArray, List.set_cons_zero, List.set_cons_succ]
    refine h_take 9 (.bool true) rfl 15 rfl (by kernel_rfl) (by kernel_rfl) (by kernel_rfl) (by kernel_rfl) (fun _ _ _ h => h) (fun w' _ => cmp_leq _ _ _ _ rfl .i64 (L.length : Int) (r : Int) rfl rfl true d1 w') ⟨S_4, trivial⟩ ?_
    simp only [Act.put, List.setIfInBounds_toArray, List.set_cons_zero, List.set_cons_succ]
    refine wpAnyH_done (by kernel_rfl) ?_ _
    have nRS : R ≠ S := R_4.ne_type S_4 (by decide)
    have nOL := OL_4.ne R_4 (by decide)
    have nOK := OK_4.ne R_4 (by decide)
    go_wp2_with (first
      | ((with_reducible refine at_slot 16 ?_); (refine arm_build (o := ⟨some 16, _, _, _, _, _⟩) rfl _ _ rfl (u8s zh) built_h0 ?_); try simp only [Act.put, List.setIfInBounds_toArray, List.set_cons_zero, List.set_cons_succ])
      | ((with_reducible refine arm_store (o := ⟨none, _, _, _, _, _⟩) rfl _ _ _ rfl R 0 rfl (u8s zh) rfl _ _ R_4 (fitH zh_ok) (u8s_one _) (szH zh_ok) ?_); intro yR hR oR sR; try simp only [Act.put, List.setIfInBounds_toArray, List.set_cons_zero, List.set_cons_succ]))
    refine bodyPost_ret (result_row2 (p := 2) (u := 3) (ty := 32) (t := 32) (by kernel_rfl) _ _ R (u8s zh) (.bool false) rfl rfl (hR.congr (allH zh_ok)) (szH zh_ok)) rfl ?_
    exact ⟨by rw [HLE.out]; rfl, ⟨F, by rw [HLE.out]; exact ⟨⟨pl, cl, pk, ck, S_4.only oR (Ne.symm nRS), OL_4.only oR nOL, OK_4.only oR nOK, FS.out, FL.out, FK.out⟩, PO.out, HLI.out.mono (Nat.le_trans bel_4.size oR.size)⟩, Grew.refl _ _⟩, bel_4.new oR geR⟩
  · have d1 : decide ((L.length : Int) ≤ (r : Int)) = false := decide_eq_false (by omega)
    have h2 := H2.out; have hL := HL.out
    obtain ⟨u, hu⟩ : ∃ u, u = out dK pin L := ⟨_, rfl⟩
    have hu1 : u ≤ 1 := hu ▸ out_le pin L
    have hul : u < L.length := by omega
    obtain ⟨x, hx⟩ : ∃ x, L[u]? = some x := ⟨_, List.getElem?_eq_getElem hul⟩
    obtain ⟨x0, hx0⟩ : ∃ x0, L[0]? = some x0 := ⟨_, List.getElem?_eq_getElem (by omega)⟩
    have HLE : Hid (less dK r pin L = (L.eraseIdx u, some x)) := Lib.hid (by unfold less; rw [if_neg hr, ← hu, hx])
    have HOUT : Hid (u = if pin = some (dK x0) then 1 else 0) := Lib.hid (by rw [hu]; unfold out; rw [List.getElem?_map, hx0]; rfl)
    have HX := Lib.hid hx; have HX0 := Lib.hid hx0
    have HUM : Hid (u < (L.map keyN).length) := Lib.hid (by rw [List.length_map]; exact hul)
    have HER : Hid (L.take u ++ L.drop (u + 1) = L.eraseIdx u) := Lib.hid (List.eraseIdx_eq_take_drop_succ ..).symm
    have HERK : Hid ((L.map keyN).take u ++ (L.map keyN).drop (u + 1) = (L.eraseIdx u).map keyN) := Lib.hid (by rw [← HER.out, List.map_append, List.map_take, List.map_drop])
    obtain ⟨g, cs0, rr0, hp, _, _, _, _⟩ := hOK.as_row (by rw [List.length_map]; omega)
    subst hp
    clear hr hu hx hx0
    go_enter Tryz.func28, Tryz.ntmps28
    have bel0 : Chg F w w := Chg.refl _ _
    go_wp2_with (first
      | ((with_reducible refine at_slot 2 ?_); (refine arm_alloc (o := ⟨some 2, _, _, _, _, _⟩) rfl _ rfl (u8s zh) zH ?_); intro R v1 Re hv1 nv1; try simp only [Act.put, List.setIfInBounds_toArray, List.set_cons_zero, List.set_cons_succ]))
    have hbv1 := nv1.below
    have rrv1 : Row v1 R 32 (u8s zh) := hv1
    have geR : w.heap.size ≤ R := by have := Re.out; have := bel0.size; omega
    have lRx : w.heap.size ≤ R := by have := Re.out; omega
    clear hv1 nv1 Re
    have S_2 : Row v1 S 68 (ncs pl L.length cl (some ⟨g, 0, none⟩) L.length ck r pin) := hS0.old hbv1
    have OL_2 : Sl.Own kR v1 0 pl cl L := hOL.below hbv1
    have OK_2 : Sl.Own kRK v1 0 (some ⟨g, 0, none⟩) ck (L.map keyN) := hOK.below hbv1
    have bel_2 : Chg F w v1 := bel0.old hbv1
    clear hS0 hOL hOK bel0 hbv1
    refine wp_region_held (S := fun w' => Row w' S 68 (ncs pl L.length cl (some ⟨g, 0, none⟩) L.length ck r pin) ∧ True) (by kernel_rfl) ?_
    change wpAnyH _ _ _ _ _ _ _ _ v1.drew
    have hd3 : Below v1.heap.size v1 v1.drew := (Below.refl _ _).drew
    have S_4 : Row v1.drew S 68 (ncs pl L.length cl (some ⟨g, 0, none⟩) L.length ck r pin) := S_2.old hd3
    have OL_4 : Sl.Own kR v1.drew 0 pl cl L := OL_2.below hd3
    have OK_4 : Sl.Own kRK v1.drew 0 (some ⟨g, 0, none⟩) ck (L.map keyN) := OK_2.below hd3
    have R_4 : Row v1.drew R 32 (u8s zh) := rrv1.old hd3
    have bel_4 : Chg F w v1.drew := bel_2.old hd3
    clear S_2 OL_2 OK_2 rrv1 bel_2 hd3
    generalize v1.drew = yz3 at S_4 OL_4 OK_4 R_4 bel_4 ⊢
    refine h_take 0 (.pointer (some ⟨S, 0, none⟩)) rfl 6 rfl (by kernel_rfl) (by kernel_rfl) (by kernel_rfl) (by kernel_rfl) (fun _ _ _ h => h) (fun w' _ => by kernel_rfl) ⟨S_4, trivial⟩ ?_
    simp only [Act.put, List.setIfInBounds_toArray, List.set_cons_zero, List.set_cons_succ]
    refine h_take 1 (.pointer (some ⟨S, 0, none⟩)) rfl 7 rfl (by kernel_rfl) (by kernel_rfl) (by kernel_rfl) (by kernel_rfl) (fun _ _ _ h => h) (fun w' _ => by kernel_rfl) ⟨S_4, trivial⟩ ?_
    simp only [Act.put, List.setIfInBounds_toArray, List.set_cons_zero, List.set_cons_succ]
    refine h_take 2 (.pointer (some ⟨S, 0, none⟩)) rfl 8 rfl (by kernel_rfl) (by kernel_rfl) (by kernel_rfl) (by kernel_rfl) (fun _ _ _ h => h) (fun w' _ => by kernel_rfl) ⟨S_4, trivial⟩ ?_
    simp only [Act.put, List.setIfInBounds_toArray, List.set_cons_zero, List.set_cons_succ]
    refine h_take 3 (.slice pl L.length cl) rfl 9 rfl (by kernel_rfl) (by kernel_rfl) (by kernel_rfl) (by kernel_rfl) (fun _ _ _ h => h) (fun w' hw => run_op_load1 _ _ rfl (.slice 55) fR.und rfl ⟨S, 0, none⟩ rfl (.slice pl L.length cl) (hw.1.cell (i := 0) rfl)) ⟨S_4, trivial⟩ ?_
    simp only [Act.put, List.setIfInBounds_toArray, List.set_cons_zero, List.set_cons_succ]
    refine h_take 4 (.int .i64 (L.length : Int)) rfl 10 rfl (by kernel_rfl) (by kernel_rfl) (by kernel_rfl) (by kernel_rfl) (fun _ _ _ h => h) (fun w' _ => Sl.run_op_lenK _ _ _ rfl fR.und _ _ _ rfl w') ⟨S_4, trivial⟩ ?_
    simp only [Act.put, List.setIfInBounds_toArray, List.set_cons_zero, List.set_cons_succ]
    refine h_take 5 (.pointer (some ⟨S, 0, none⟩)) rfl 11 rfl (by kernel_rfl) (by kernel_rfl) (by kernel_rfl) (by kernel_rfl) (fun _ _ _ h => h) (fun w' _ => by kernel_rfl) ⟨S_4, trivial⟩ ?_
    simp only [Act.put, List.setIfInBounds_toArray, List.set_cons_zero, List.set_cons_succ]
    refine h_take 6 (.pointer (some ⟨S, 0, none⟩)) rfl 12 rfl (by kernel_rfl) (by kernel_rfl) (by kernel_rfl) (by kernel_rfl) (fun _ _ _ h => h) (fun w' _ => by kernel_rfl) ⟨S_4, trivial⟩ ?_
    simp only [Act.put, List.setIfInBounds_toArray, List.set_cons_zero, List.set_cons_succ]
    refine h_take 7 (.pointer (some ⟨S, 2, none⟩)) rfl 13 rfl (by kernel_rfl) (by kernel_rfl) (by kernel_rfl) (by kernel_rfl) (fun _ _ _ h => h) (fun w' _ => by kernel_rfl) ⟨S_4, trivial⟩ ?_
    simp only [Act.put, List.setIfInBounds_toArray, List.set_cons_zero, List.set_cons_succ]
    refine h_take 8 (.int .i64 (r : Int)) rfl 14 rfl (by kernel_rfl) (by kernel_rfl) (by kernel_rfl) (by kernel_rfl) (fun _ _ _ h => h) (fun w' hw => run_op_load1 _ _ rfl (.int .i64) (by kernel_rfl) rfl ⟨S, 2, none⟩ rfl (.int .i64 (r : Int)) (hw.1.cell (i := 2) rfl)) ⟨S_4, trivial⟩ ?_
    simp only [Act.put, List.setIfInBounds_toArray, List.set_cons_zero, List.set_cons_succ]
    refine h_take 9 (.bool false) rfl 15 rfl (by kernel_rfl) (by kernel_rfl) (by kernel_rfl) (by kernel_rfl) (fun _ _ _ h => h) (fun w' _ => cmp_leq _ _ _ _ rfl .i64 (L.length : Int) (r : Int) rfl rfl false d1 w') ⟨S_4, trivial⟩ ?_
    simp only [Act.put, List.setIfInBounds_toArray, List.set_cons_zero, List.set_cons_succ]
    refine wpAnyH_done (by kernel_rfl) ?_ _
    go_wp2_with fail
    go_cut [34] (fun v wx => ∃ b : Bool, v = .bool b ∧ u = (if b = true then 1 else 0) ∧ Row wx S 68 (ncs pl L.length cl (some ⟨g, 0, none⟩) L.length ck r pin) ∧ Sl.Own kR wx 0 pl cl L ∧ Sl.Own kRK wx 0 (some ⟨g, 0, none⟩) ck (L.map keyN) ∧ Row wx R 32 (u8s zh) ∧ Chg F w wx)
    case first =>
      cases pin with
      | none =>
        have HU : Hid (u = 0) := Lib.hid (by rw [HOUT.out]; rfl)
        clear HOUT
        refine wp_region_held (S := fun w' => Row w' S 68 (ncs pl L.length cl (some ⟨g, 0, none⟩) L.length ck r none) ∧ True) (by kernel_rfl) ?_
        change wpAnyH _ _ _ _ _ _ _ _ yz3.drew
        have hd5 : Below yz3.heap.size yz3 yz3.drew := (Below.refl _ _).drew
        have S_6 : Row yz3.drew S 68 (ncs pl L.length cl (some ⟨g, 0, none⟩) L.length ck r none) := S_4.old hd5
        have OL_6 : Sl.Own kR yz3.drew 0 pl cl L := OL_4.below hd5
        have OK_6 : Sl.Own kRK yz3.drew 0 (some ⟨g, 0, none⟩) ck (L.map keyN) := OK_4.below hd5
        have R_6 : Row yz3.drew R 32 (u8s zh) := R_4.old hd5
        have bel_6 : Chg F w yz3.drew := bel_4.old hd5
        clear S_4 OL_4 OK_4 R_4 bel_4 hd5
        generalize yz3.drew = yz5 at S_6 OL_6 OK_6 R_6 bel_6 ⊢
        refine h_take 0 (.pointer (some ⟨S, 0, none⟩)) rfl 17 rfl (by kernel_rfl) (by kernel_rfl) (by kernel_rfl) (by kernel_rfl) (fun _ _ _ h => h) (fun w' _ => by kernel_rfl) ⟨S_6, trivial⟩ ?_
        simp only [Act.put, List.setIfInBounds_toArray, List.set_cons_zero, List.set_cons_succ]
        refine h_take 1 (.pointer (some ⟨S, 0, none⟩)) rfl 18 rfl (by kernel_rfl) (by kernel_rfl) (by kernel_rfl) (by kernel_rfl) (fun _ _ _ h => h) (fun w' _ => by kernel_rfl) ⟨S_6, trivial⟩ ?_
        simp only [Act.put, List.setIfInBounds_toArray, List.set_cons_zero, List.set_cons_succ]
        refine h_take 2 (.pointer (some ⟨S, 3, none⟩)) rfl 19 rfl (by kernel_rfl) (by kernel_rfl) (by kernel_rfl) (by kernel_rfl) (fun _ _ _ h => h) (fun w' _ => by kernel_rfl) ⟨S_6, trivial⟩ ?_
        simp only [Act.put, List.setIfInBounds_toArray, List.set_cons_zero, List.set_cons_succ]
        refine h_take 3 (.bool false) rfl 20 rfl (by kernel_rfl) (by kernel_rfl) (by kernel_rfl) (by kernel_rfl) (fun _ _ _ h => h) (fun w' hw => run_op_load1 _ _ rfl (.bool) (by kernel_rfl) rfl ⟨S, 3, none⟩ rfl (.bool false) (hw.1.cell (i := 3) rfl)) ⟨S_6, trivial⟩ ?_
        simp only [Act.put, List.setIfInBounds_toArray, List.set_cons_zero, List.set_cons_succ]
        refine h_take 4 (.bool false) rfl 21 rfl (by kernel_rfl) (by kernel_rfl) (by kernel_rfl) (by kernel_rfl) (fun _ _ _ h => h) (fun w' _ => by kernel_rfl) ⟨S_6, trivial⟩ ?_
        simp only [Act.put, List.setIfInBounds_toArray, List.set_cons_zero, List.set_cons_succ]
        refine h_pass 5 rfl 22 rfl (by kernel_rfl) (by kernel_rfl) (by kernel_rfl) (by kernel_rfl) (fun _ _ _ h => h) ⟨S_6, trivial⟩ ?_
        simp only [Act.put, List.setIfInBounds_toArray, List.set_cons_zero, List.set_cons_succ]
        refine h_pass 6 rfl 23 rfl (by kernel_rfl) (by kernel_rfl) (by kernel_rfl) (by kernel_rfl) (fun _ _ _ h => h) ⟨S_6, trivial⟩ ?_
        simp only [Act.put, List.setIfInBounds_toArray, List.set_cons_zero, List.set_cons_succ]
        refine h_pass 7 rfl 24 rfl (by kernel_rfl) (by kernel_rfl) (by kernel_rfl) (by kernel_rfl) (fun _ _ _ h => h) ⟨S_6, trivial⟩ ?_
        simp only [Act.put, List.setIfInBounds_toArray, List.set_cons_zero, List.set_cons_succ]
        refine h_pass 8 rfl 25 rfl (by kernel_rfl) (by kernel_rfl) (by kernel_rfl) (by kernel_rfl) (fun _ _ _ h => h) ⟨S_6, trivial⟩ ?_
        simp only [Act.put, List.setIfInBounds_toArray, List.set_cons_zero, List.set_cons_succ]
        refine h_pass 9 rfl 26 rfl (by kernel_rfl) (by kernel_rfl) (by kernel_rfl) (by kernel_rfl) (fun _ _ _ h => h) ⟨S_6, trivial⟩ ?_
        simp only [Act.put, List.setIfInBounds_toArray, List.set_cons_zero, List.set_cons_succ]
        refine h_pass 10 rfl 27 rfl (by kernel_rfl) (by kernel_rfl) (by kernel_rfl) (by kernel_rfl) (fun _ _ _ h => h) ⟨S_6, trivial⟩ ?_
        simp only [Act.put, List.setIfInBounds_toArray, List.set_cons_zero, List.set_cons_succ]
        refine h_pass 11 rfl 28 rfl (by kernel_rfl) (by kernel_rfl) (by kernel_rfl) (by kernel_rfl) (fun _ _ _ h => h) ⟨S_6, trivial⟩ ?_
        simp only [Act.put, List.setIfInBounds_toArray, List.set_cons_zero, List.set_cons_succ]
        refine h_pass 12 rfl 29 rfl (by kernel_rfl) (by kernel_rfl) (by kernel_rfl) (by kernel_rfl) (fun _ _ _ h => h) ⟨S_6, trivial⟩ ?_
        simp only [Act.put, List.setIfInBounds_toArray, List.set_cons_zero, List.set_cons_succ]
        refine h_pass 13 rfl 30 rfl (by kernel_rfl) (by kernel_rfl) (by kernel_rfl) (by kernel_rfl) (fun _ _ _ h => h) ⟨S_6, trivial⟩ ?_
        simp only [Act.put, List.setIfInBounds_toArray, List.set_cons_zero, List.set_cons_succ]
        refine h_pass 14 rfl 31 rfl (by kernel_rfl) (by kernel_rfl) (by kernel_rfl) (by kernel_rfl) (fun _ _ _ h => h) ⟨S_6, trivial⟩ ?_
        simp only [Act.put, List.setIfInBounds_toArray, List.set_cons_zero, List.set_cons_succ]
        refine h_pass 15 rfl 32 rfl (by kernel_rfl) (by kernel_rfl) (by kernel_rfl) (by kernel_rfl) (fun _ _ _ h => h) ⟨S_6, trivial⟩ ?_
        simp only [Act.put, List.setIfInBounds_toArray, List.set_cons_zero, List.set_cons_succ]
        refine h_pass 16 rfl 33 rfl (by kernel_rfl) (by kernel_rfl) (by kernel_rfl) (by kernel_rfl) (fun _ _ _ h => h) ⟨S_6, trivial⟩ ?_
        simp only [Act.put, List.setIfInBounds_toArray, List.set_cons_zero, List.set_cons_succ]
        refine h_take 17 (.bool false) rfl 34 rfl (by kernel_rfl) (by kernel_rfl) (by kernel_rfl) (by kernel_rfl) (fun _ _ _ h => h) (fun w' _ => by kernel_rfl) ⟨S_6, trivial⟩ ?_
        simp only [Act.put, List.setIfInBounds_toArray, List.set_cons_zero, List.set_cons_succ]
        refine wpAnyH_done (by kernel_rfl) ?_ _
        go_wp2_with fail
        go_meet
        exact ⟨false, rfl, HU.out, S_6, OL_6, OK_6, R_6, bel_6⟩
      | some p =>
        have KP : Hid (H32 p) := Lib.hid (PO.out p rfl)
        have hk0 : (L.map keyN)[0]? = some (keyN x0) := by rw [List.getElem?_map, HX0.out]; rfl
        have kx0 : (keyN x0).Ok := Sl.AllOk.get OK_4.ok hk0
        have KX : Hid (H32 (dK x0)) := Lib.hid kx0.hash
        obtain ⟨g', o', ep, _, hrx⟩ := (OK_4.at fRK).at_ 0 (keyN x0) hk0
        obtain ⟨rfl, rfl⟩ : g = g' ∧ 0 = o' := by simpa using ep
        have hrh : yz3.rangeAt g (0 + 0 * 65 + 33) (u8s (dK x0)) := key_hash kx0 hrx
        have HLT0 : Hid (0 < L.length) := Lib.hid (by omega)
        clear hk0 kx0 ep hrx
        by_cases he : dK x0 = p
        · skip
          have HU : Hid (u = 1) := Lib.hid (by rw [HOUT.out, if_pos (by rw [he])])
          have de : decide (dK x0 = p) = true := decide_eq_true he
          clear HOUT he
          refine wp_region_held (S := fun w' => Row w' S 68 (ncs pl L.length cl (some ⟨g, 0, none⟩) L.length ck r (some p)) ∧ w'.rangeAt g (0 + 0 * 65 + 33) (u8s (dK x0)) ∧ True) (by kernel_rfl) ?_
          change wpAnyH _ _ _ _ _ _ _ _ yz3.drew
          have hd5 : Below yz3.heap.size yz3 yz3.drew := (Below.refl _ _).drew
          have S_6 : Row yz3.drew S 68 (ncs pl L.length cl (some ⟨g, 0, none⟩) L.length ck r (some p)) := S_4.old hd5
          have OL_6 : Sl.Own kR yz3.drew 0 pl cl L := OL_4.below hd5
          have OK_6 : Sl.Own kRK yz3.drew 0 (some ⟨g, 0, none⟩) ck (L.map keyN) := OK_4.below hd5
          have R_6 : Row yz3.drew R 32 (u8s zh) := R_4.old hd5
          have D_6 : yz3.drew.rangeAt g (0 + 0 * 65 + 33) (u8s (dK x0)) := range_u8 hrh KX.out hd5
          have bel_6 : Chg F w yz3.drew := bel_4.old hd5
          clear S_4 OL_4 OK_4 R_4 hrh bel_4 hd5
          generalize yz3.drew = yz5 at S_6 OL_6 OK_6 R_6 D_6 bel_6 ⊢
          refine h_take 0 (.pointer (some ⟨S, 0, none⟩)) rfl 17 rfl (by kernel_rfl) (by kernel_rfl) (by kernel_rfl) (by kernel_rfl) (fun _ _ _ h => h) (fun w' _ => by kernel_rfl) ⟨S_6, D_6, trivial⟩ ?_
          simp only [Act.put, List.setIfInBounds_toArray, List.set_cons_zero, List.set_cons_succ]
          refine h_take 1 (.pointer (some ⟨S, 0, none⟩)) rfl 18 rfl (by kernel_rfl) (by kernel_rfl) (by kernel_rfl) (by kernel_rfl) (fun _ _ _ h => h) (fun w' _ => by kernel_rfl) ⟨S_6, D_6, trivial⟩ ?_
          simp only [Act.put, List.setIfInBounds_toArray, List.set_cons_zero, List.set_cons_succ]
          refine h_take 2 (.pointer (some ⟨S, 3, none⟩)) rfl 19 rfl (by kernel_rfl) (by kernel_rfl) (by kernel_rfl) (by kernel_rfl) (fun _ _ _ h => h) (fun w' _ => by kernel_rfl) ⟨S_6, D_6, trivial⟩ ?_
          simp only [Act.put, List.setIfInBounds_toArray, List.set_cons_zero, List.set_cons_succ]
          refine h_take 3 (.bool true) rfl 20 rfl (by kernel_rfl) (by kernel_rfl) (by kernel_rfl) (by kernel_rfl) (fun _ _ _ h => h) (fun w' hw => run_op_load1 _ _ rfl (.bool) (by kernel_rfl) rfl ⟨S, 3, none⟩ rfl (.bool true) (hw.1.cell (i := 3) rfl)) ⟨S_6, D_6, trivial⟩ ?_
          simp only [Act.put, List.setIfInBounds_toArray, List.set_cons_zero, List.set_cons_succ]
          refine h_take 4 (.bool true) rfl 21 rfl (by kernel_rfl) (by kernel_rfl) (by kernel_rfl) (by kernel_rfl) (fun _ _ _ h => h) (fun w' _ => by kernel_rfl) ⟨S_6, D_6, trivial⟩ ?_
          simp only [Act.put, List.setIfInBounds_toArray, List.set_cons_zero, List.set_cons_succ]
          refine h_take 5 (.pointer (some ⟨S, 0, none⟩)) rfl 22 rfl (by kernel_rfl) (by kernel_rfl) (by kernel_rfl) (by kernel_rfl) (fun _ _ _ h => h) (fun w' _ => by kernel_rfl) ⟨S_6, D_6, trivial⟩ ?_
          simp only [Act.put, List.setIfInBounds_toArray, List.set_cons_zero, List.set_cons_succ]
          refine h_take 6 (.pointer (some ⟨S, 0, none⟩)) rfl 23 rfl (by kernel_rfl) (by kernel_rfl) (by kernel_rfl) (by kernel_rfl) (fun _ _ _ h => h) (fun w' _ => by kernel_rfl) ⟨S_6, D_6, trivial⟩ ?_
          simp only [Act.put, List.setIfInBounds_toArray, List.set_cons_zero, List.set_cons_succ]
          refine h_take 7 (.pointer (some ⟨S, 1, none⟩)) rfl 24 rfl (by kernel_rfl) (by kernel_rfl) (by kernel_rfl) (by kernel_rfl) (fun _ _ _ h => h) (fun w' _ => by kernel_rfl) ⟨S_6, D_6, trivial⟩ ?_
          simp only [Act.put, List.setIfInBounds_toArray, List.set_cons_zero, List.set_cons_succ]
          refine h_take 8 (.slice (some ⟨g, 0, none⟩) L.length ck) rfl 25 rfl (by kernel_rfl) (by kernel_rfl) (by kernel_rfl) (by kernel_rfl) (fun _ _ _ h => h) (fun w' hw => run_op_load1 _ _ rfl (.slice 84) fRK.und rfl ⟨S, 1, none⟩ rfl (.slice (some ⟨g, 0, none⟩) L.length ck) (hw.1.cell (i := 1) rfl)) ⟨S_6, D_6, trivial⟩ ?_
          simp only [Act.put, List.setIfInBounds_toArray, List.set_cons_zero, List.set_cons_succ]
          refine h_take 9 (.pointer (some ⟨g, 0 + 0 * 65, none⟩)) rfl 26 rfl (by kernel_rfl) (by kernel_rfl) (by kernel_rfl) (by kernel_rfl) (fun _ _ _ h => h) (fun w' _ => Sl.run_op_index fRK _ _ rfl g 0 _ _ rfl .i64 0 rfl 0 rfl HLT0.out w') ⟨S_6, D_6, trivial⟩ ?_
          simp only [Act.put, List.setIfInBounds_toArray, List.set_cons_zero, List.set_cons_succ]
          refine h_take 10 (.pointer (some ⟨g, 0 + 0 * 65 + 33, none⟩)) rfl 27 rfl (by kernel_rfl) (by kernel_rfl) (by kernel_rfl) (by kernel_rfl) (fun _ _ _ h => h) (fun w' _ => by kernel_rfl) ⟨S_6, D_6, trivial⟩ ?_
          simp only [Act.put, List.setIfInBounds_toArray, List.set_cons_zero, List.set_cons_succ]
          refine h_take 11 (.agg (u8s (dK x0)).toArray) rfl 28 rfl (by kernel_rfl) (by kernel_rfl) (by kernel_rfl) (by kernel_rfl) (fun _ _ _ h => h) (fun w' hw => run_op_load _ _ rfl g (0 + 0 * 65 + 33) rfl (u8s (dK x0)) hw.2.1 (szH KX.out)) ⟨S_6, D_6, trivial⟩ ?_
          simp only [Act.put, List.setIfInBounds_toArray, List.set_cons_zero, List.set_cons_succ]
          refine h_take 12 (.pointer (some ⟨S, 0, none⟩)) rfl 29 rfl (by kernel_rfl) (by kernel_rfl) (by kernel_rfl) (by kernel_rfl) (fun _ _ _ h => h) (fun w' _ => by kernel_rfl) ⟨S_6, D_6, trivial⟩ ?_
          simp only [Act.put, List.setIfInBounds_toArray, List.set_cons_zero, List.set_cons_succ]
          refine h_take 13 (.pointer (some ⟨S, 0, none⟩)) rfl 30 rfl (by kernel_rfl) (by kernel_rfl) (by kernel_rfl) (by kernel_rfl) (fun _ _ _ h => h) (fun w' _ => by kernel_rfl) ⟨S_6, D_6, trivial⟩ ?_
          simp only [Act.put, List.setIfInBounds_toArray, List.set_cons_zero, List.set_cons_succ]
          refine h_take 14 (.pointer (some ⟨S, 4, none⟩)) rfl 31 rfl (by kernel_rfl) (by kernel_rfl) (by kernel_rfl) (by kernel_rfl) (fun _ _ _ h => h) (fun w' _ => by kernel_rfl) ⟨S_6, D_6, trivial⟩ ?_
          simp only [Act.put, List.setIfInBounds_toArray, List.set_cons_zero, List.set_cons_succ]
          refine h_take 15 (.agg (u8s p).toArray) rfl 32 rfl (by kernel_rfl) (by kernel_rfl) (by kernel_rfl) (by kernel_rfl) (fun _ _ _ h => h) (fun w' hw => run_op_load _ _ rfl S (4) rfl (u8s p) (((has_pin pl L.length cl (some ⟨g, 0, none⟩) L.length ck r (some p))).range hw.1) ((szH KP.out))) ⟨S_6, D_6, trivial⟩ ?_
          simp only [Act.put, List.setIfInBounds_toArray, List.set_cons_zero, List.set_cons_succ]
          refine h_take 16 (.bool true) rfl 33 rfl (by kernel_rfl) (by kernel_rfl) (by kernel_rfl) (by kernel_rfl) (fun _ _ _ h => h) (fun w' _ => run_op_eqlV _ _ _ rfl (dK x0) p KX.out KP.out rfl rfl true de w') ⟨S_6, D_6, trivial⟩ ?_
          simp only [Act.put, List.setIfInBounds_toArray, List.set_cons_zero, List.set_cons_succ]
          refine h_take 17 (.bool true) rfl 34 rfl (by kernel_rfl) (by kernel_rfl) (by kernel_rfl) (by kernel_rfl) (fun _ _ _ h => h) (fun w' _ => by kernel_rfl) ⟨S_6, D_6, trivial⟩ ?_
          simp only [Act.put, List.setIfInBounds_toArray, List.set_cons_zero, List.set_cons_succ]
          refine wpAnyH_done (by kernel_rfl) ?_ _
          go_wp2_with fail
          go_meet
          exact ⟨true, rfl, HU.out, S_6, OL_6, OK_6, R_6, bel_6⟩
        · skip
          have HU : Hid (u = 0) := Lib.hid (by rw [HOUT.out, if_neg (fun q => he (Option.some.inj q).symm)])
          have de : decide (dK x0 = p) = false := decide_eq_false he
          clear HOUT he
          refine wp_region_held (S := fun w' => Row w' S 68 (ncs pl L.length cl (some ⟨g, 0, none⟩) L.length ck r (some p)) ∧ w'.rangeAt g (0 + 0 * 65 + 33) (u8s (dK x0)) ∧ True) (by kernel_rfl) ?_
          change wpAnyH _ _ _ _ _ _ _ _ yz3.drew
          have hd5 : Below yz3.heap.size yz3 yz3.drew := (Below.refl _ _).drew
          have S_6 : Row yz3.drew S 68 (ncs pl L.length cl (some ⟨g, 0, none⟩) L.length ck r (some p)) := S_4.old hd5
          have OL_6 : Sl.Own kR yz3.drew 0 pl cl L := OL_4.below hd5
          have OK_6 : Sl.Own kRK yz3.drew 0 (some ⟨g, 0, none⟩) ck (L.map keyN) := OK_4.below hd5
          have R_6 : Row yz3.drew R 32 (u8s zh) := R_4.old hd5
          have D_6 : yz3.drew.rangeAt g (0 + 0 * 65 + 33) (u8s (dK x0)) := range_u8 hrh KX.out hd5
          have bel_6 : Chg F w yz3.drew := bel_4.old hd5
          clear S_4 OL_4 OK_4 R_4 hrh bel_4 hd5
          generalize yz3.drew = yz5 at S_6 OL_6 OK_6 R_6 D_6 bel_6 ⊢
          refine h_take 0 (.pointer (some ⟨S, 0, none⟩)) rfl 17 rfl (by kernel_rfl) (by kernel_rfl) (by kernel_rfl) (by kernel_rfl) (fun _ _ _ h => h) (fun w' _ => by kernel_rfl) ⟨S_6, D_6, trivial⟩ ?_
          simp only [Act.put, List.setIfInBounds_toArray, List.set_cons_zero, List.set_cons_succ]
          refine h_take 1 (.pointer (some ⟨S, 0, none⟩)) rfl 18 rfl (by kernel_rfl) (by kernel_rfl) (by kernel_rfl) (by kernel_rfl) (fun _ _ _ h => h) (fun w' _ => by kernel_rfl) ⟨S_6, D_6, trivial⟩ ?_
          simp only [Act.put, List.setIfInBounds_toArray, List.set_cons_zero, List.set_cons_succ]
          refine h_take 2 (.pointer (some ⟨S, 3, none⟩)) rfl 19 rfl (by kernel_rfl) (by kernel_rfl) (by kernel_rfl) (by kernel_rfl) (fun _ _ _ h => h) (fun w' _ => by kernel_rfl) ⟨S_6, D_6, trivial⟩ ?_
          simp only [Act.put, List.setIfInBounds_toArray, List.set_cons_zero, List.set_cons_succ]
          refine h_take 3 (.bool true) rfl 20 rfl (by kernel_rfl) (by kernel_rfl) (by kernel_rfl) (by kernel_rfl) (fun _ _ _ h => h) (fun w' hw => run_op_load1 _ _ rfl (.bool) (by kernel_rfl) rfl ⟨S, 3, none⟩ rfl (.bool true) (hw.1.cell (i := 3) rfl)) ⟨S_6, D_6, trivial⟩ ?_
          simp only [Act.put, List.setIfInBounds_toArray, List.set_cons_zero, List.set_cons_succ]
          refine h_take 4 (.bool true) rfl 21 rfl (by kernel_rfl) (by kernel_rfl) (by kernel_rfl) (by kernel_rfl) (fun _ _ _ h => h) (fun w' _ => by kernel_rfl) ⟨S_6, D_6, trivial⟩ ?_
          simp only [Act.put, List.setIfInBounds_toArray, List.set_cons_zero, List.set_cons_succ]
          refine h_take 5 (.pointer (some ⟨S, 0, none⟩)) rfl 22 rfl (by kernel_rfl) (by kernel_rfl) (by kernel_rfl) (by kernel_rfl) (fun _ _ _ h => h) (fun w' _ => by kernel_rfl) ⟨S_6, D_6, trivial⟩ ?_
          simp only [Act.put, List.setIfInBounds_toArray, List.set_cons_zero, List.set_cons_succ]
          refine h_take 6 (.pointer (some ⟨S, 0, none⟩)) rfl 23 rfl (by kernel_rfl) (by kernel_rfl) (by kernel_rfl) (by kernel_rfl) (fun _ _ _ h => h) (fun w' _ => by kernel_rfl) ⟨S_6, D_6, trivial⟩ ?_
          simp only [Act.put, List.setIfInBounds_toArray, List.set_cons_zero, List.set_cons_succ]
          refine h_take 7 (.pointer (some ⟨S, 1, none⟩)) rfl 24 rfl (by kernel_rfl) (by kernel_rfl) (by kernel_rfl) (by kernel_rfl) (fun _ _ _ h => h) (fun w' _ => by kernel_rfl) ⟨S_6, D_6, trivial⟩ ?_
          simp only [Act.put, List.setIfInBounds_toArray, List.set_cons_zero, List.set_cons_succ]
          refine h_take 8 (.slice (some ⟨g, 0, none⟩) L.length ck) rfl 25 rfl (by kernel_rfl) (by kernel_rfl) (by kernel_rfl) (by kernel_rfl) (fun _ _ _ h => h) (fun w' hw => run_op_load1 _ _ rfl (.slice 84) fRK.und rfl ⟨S, 1, none⟩ rfl (.slice (some ⟨g, 0, none⟩) L.length ck) (hw.1.cell (i := 1) rfl)) ⟨S_6, D_6, trivial⟩ ?_
          simp only [Act.put, List.setIfInBounds_toArray, List.set_cons_zero, List.set_cons_succ]
          refine h_take 9 (.pointer (some ⟨g, 0 + 0 * 65, none⟩)) rfl 26 rfl (by kernel_rfl) (by kernel_rfl) (by kernel_rfl) (by kernel_rfl) (fun _ _ _ h => h) (fun w' _ => Sl.run_op_index fRK _ _ rfl g 0 _ _ rfl .i64 0 rfl 0 rfl HLT0.out w') ⟨S_6, D_6, trivial⟩ ?_
          simp only [Act.put, List.setIfInBounds_toArray, List.set_cons_zero, List.set_cons_succ]
          refine h_take 10 (.pointer (some ⟨g, 0 + 0 * 65 + 33, none⟩)) rfl 27 rfl (by kernel_rfl) (by kernel_rfl) (by kernel_rfl) (by kernel_rfl) (fun _ _ _ h => h) (fun w' _ => by kernel_rfl) ⟨S_6, D_6, trivial⟩ ?_
          simp only [Act.put, List.setIfInBounds_toArray, List.set_cons_zero, List.set_cons_succ]
          refine h_take 11 (.agg (u8s (dK x0)).toArray) rfl 28 rfl (by kernel_rfl) (by kernel_rfl) (by kernel_rfl) (by kernel_rfl) (fun _ _ _ h => h) (fun w' hw => run_op_load _ _ rfl g (0 + 0 * 65 + 33) rfl (u8s (dK x0)) hw.2.1 (szH KX.out)) ⟨S_6, D_6, trivial⟩ ?_
          simp only [Act.put, List.setIfInBounds_toArray, List.set_cons_zero, List.set_cons_succ]
          refine h_take 12 (.pointer (some ⟨S, 0, none⟩)) rfl 29 rfl (by kernel_rfl) (by kernel_rfl) (by kernel_rfl) (by kernel_rfl) (fun _ _ _ h => h) (fun w' _ => by kernel_rfl) ⟨S_6, D_6, trivial⟩ ?_
          simp only [Act.put, List.setIfInBounds_toArray, List.set_cons_zero, List.set_cons_succ]
          refine h_take 13 (.pointer (some ⟨S, 0, none⟩)) rfl 30 rfl (by kernel_rfl) (by kernel_rfl) (by kernel_rfl) (by kernel_rfl) (fun _ _ _ h => h) (fun w' _ => by kernel_rfl) ⟨S_6, D_6, trivial⟩ ?_
          simp only [Act.put, List.setIfInBounds_toArray, List.set_cons_zero, List.set_cons_succ]
          refine h_take 14 (.pointer (some ⟨S, 4, none⟩)) rfl 31 rfl (by kernel_rfl) (by kernel_rfl) (by kernel_rfl) (by kernel_rfl) (fun _ _ _ h => h) (fun w' _ => by kernel_rfl) ⟨S_6, D_6, trivial⟩ ?_
          simp only [Act.put, List.setIfInBounds_toArray, List.set_cons_zero, List.set_cons_succ]
          refine h_take 15 (.agg (u8s p).toArray) rfl 32 rfl (by kernel_rfl) (by kernel_rfl) (by kernel_rfl) (by kernel_rfl) (fun _ _ _ h => h) (fun w' hw => run_op_load _ _ rfl S (4) rfl (u8s p) (((has_pin pl L.length cl (some ⟨g, 0, none⟩) L.length ck r (some p))).range hw.1) ((szH KP.out))) ⟨S_6, D_6, trivial⟩ ?_
          simp only [Act.put, List.setIfInBounds_toArray, List.set_cons_zero, List.set_cons_succ]
          refine h_take 16 (.bool false) rfl 33 rfl (by kernel_rfl) (by kernel_rfl) (by kernel_rfl) (by kernel_rfl) (fun _ _ _ h => h) (fun w' _ => run_op_eqlV _ _ _ rfl (dK x0) p KX.out KP.out rfl rfl false de w') ⟨S_6, D_6, trivial⟩ ?_
          simp only [Act.put, List.setIfInBounds_toArray, List.set_cons_zero, List.set_cons_succ]
          refine h_take 17 (.bool false) rfl 34 rfl (by kernel_rfl) (by kernel_rfl) (by kernel_rfl) (by kernel_rfl) (fun _ _ _ h => h) (fun w' _ => by kernel_rfl) ⟨S_6, D_6, trivial⟩ ?_
          simp only [Act.put, List.setIfInBounds_toArray, List.set_cons_zero, List.set_cons_succ]
          refine wpAnyH_done (by kernel_rfl) ?_ _
          go_wp2_with fail
          go_meet
          exact ⟨false, rfl, HU.out, S_6, OL_6, OK_6, R_6, bel_6⟩
    case rest =>
      obtain ⟨b, rfl, hub, rS, rL, rK, rR, belc⟩ := hcut
      clear S_4 OL_4 OK_4 R_4 bel_4 HOUT HX0
      have HUB := Lib.hid hub
      clear hub
      generalize wc = W4 at rS rL rK rR belc ⊢
      go_upto_if 34 with (fail)
      go_cut [4] (fun v wx => v = .int .i64 (u : Int) ∧ wx = W4)
      case first =>
        cases b
        · have HU : Hid (u = 0) := Lib.hid HUB.out
          clear HUB
          go_wp2_with fail
          go_meet
          exact ⟨by rw [HU.out]; rfl, rfl⟩
        · have HU : Hid (u = 1) := Lib.hid HUB.out
          clear HUB
          go_wp2_with fail
          go_meet
          exact ⟨by rw [HU.out]; rfl, rfl⟩
      case rest =>
      obtain ⟨rfl, ew⟩ := hcut
      rw [ew]
      clear ew HUB
      have hku : (L.map keyN)[u]? = some (keyN x) := by rw [List.getElem?_map, HX.out]; rfl
      have kxu : (keyN x).Ok := Sl.AllOk.get rK.ok hku
      have KX : Hid (H32 (dK x)) := Lib.hid kxu.hash
      have hrh : W4.rangeAt g (u * 65 + 33) (u8s (dK x)) := by
        obtain ⟨g', o', ep, _, hrx⟩ := (rK.at fRK).at_ u (keyN x) hku
        obtain ⟨rfl, rfl⟩ : g = g' ∧ 0 = o' := by simpa using ep
        have h := key_hash kxu hrx
        rw [Nat.zero_add] at h
        exact h
      have hc1 := rS.cell (i := 1) rfl
      have l1000 : L.length ≤ 1000 := hL
      have HW1 : Hid (IntKind.i64.wrap ((u : Int) + 1) = (u : Int) + 1) := Lib.hid (wrap_small _ (by omega) (by omega))
      have IC : Hid (u ≤ cl) := Lib.hid (by have := rL.cap; omega); have KCM : Hid (L.length ≤ cl) := Lib.hid rL.cap
      have IK : Hid (u ≤ ck) := Lib.hid (by have := rK.cap; rw [List.length_map] at this; omega); have KKM : Hid ((L.map keyN).length ≤ ck) := Lib.hid rK.cap
      have TKL : Hid (u = (L.take u).length) := Lib.hid (by rw [List.length_take]; omega); have DKL : Hid (L.length - (u + 1) = (L.drop (u + 1)).length) := Lib.hid (by rw [List.length_drop])
      have TDL : Hid ((L.take u).length + (L.drop (u + 1)).length ≤ 1000000) := Lib.hid (by rw [List.length_take, List.length_drop]; omega)
      have TKK : Hid (u = ((L.map keyN).take u).length) := Lib.hid (by rw [List.length_take, List.length_map]; omega); have DKK : Hid (L.length - (u + 1) = ((L.map keyN).drop (u + 1)).length) := Lib.hid (by rw [List.length_drop, List.length_map])
      have TDK : Hid (((L.map keyN).take u).length + ((L.map keyN).drop (u + 1)).length ≤ 1000000) := Lib.hid (by rw [List.length_take, List.length_drop, List.length_map]; omega)
      have HLM : Hid (((L.eraseIdx u).map keyN).length = (L.eraseIdx u).length) := Lib.hid (List.length_map ..)
      clear hku kxu
      go_wp2_with (first
        | ((with_reducible refine at_slot 40 ?_); (refine arm_want (.pointer (some ⟨g, 0 + u * 65, none⟩)) 40 rfl (by kernel_rfl) (Sl.run_op_index fRK _ _ rfl g 0 _ _ rfl .i64 _ rfl u rfl (hul) _) ?_); try simp only [Act.put, List.setIfInBounds_toArray, List.set_cons_zero, List.set_cons_succ])
        | ((with_reducible refine at_slot 42 ?_); (refine arm_want (.agg (u8s (dK x)).toArray) 42 rfl (by kernel_rfl) (run_op_load _ _ rfl g (u * 65 + 33) rfl (u8s (dK x)) (hrh) ((szH KX.out))) ?_); try simp only [Act.put, List.setIfInBounds_toArray, List.set_cons_zero, List.set_cons_succ])
        | ((with_reducible refine at_slot 5 ?_); (refine arm_alloc (o := ⟨some 5, _, _, _, _, _⟩) rfl _ rfl (u8s zh) zH ?_); intro H v201a He hHa nH; try simp only [Act.put, List.setIfInBounds_toArray, List.set_cons_zero, List.set_cons_succ])
        | ((with_reducible refine arm_store (o := ⟨none, _, _, _, _, _⟩) rfl _ _ _ rfl H 0 rfl (u8s (dK x)) rfl _ _ hHa (fitH KX.out) (u8s_one _) (szH KX.out) ?_); intro v201 hHb oH sH; try simp only [Act.put, List.setIfInBounds_toArray, List.set_cons_zero, List.set_cons_succ]; refine fpause ?_; try simp only [Act.put, List.setIfInBounds_toArray, List.set_cons_zero, List.set_cons_succ]))
      have lH : W4.heap.size ≤ H := by have := He.out; omega
      have bH : Below W4.heap.size W4 v201 := below_only nH.below oH lH nH.below.size
      have rrH : Row v201 H 32 (u8s (dK x)) := hHb.congr (allH KX.out)
      have geH : w.heap.size ≤ H := Nat.le_trans belc.size lH
      have lHx := lH
      clear hHa hHb nH oH sH He lH
      have S_202 : Row v201 S 68 (ncs pl L.length cl (some ⟨g, 0, none⟩) L.length ck r pin) := rS.old bH
      have OL_202 : Sl.Own kR v201 0 pl cl L := rL.below bH
      have OK_202 : Sl.Own kRK v201 0 (some ⟨g, 0, none⟩) ck (L.map keyN) := rK.below bH
      have R_202 : Row v201 R 32 (u8s zh) := rR.old bH
      have bel_202 : Chg F w v201 := belc.old bH
      clear rS rL rK rR belc bH
      refine fgo ?_
      clear hc1 hrh
      go_wp2_with fail
      refine wp_region_last (S := fun w' => Row w' S 68 (ncs pl L.length cl (some ⟨g, 0, none⟩) L.length ck r pin) ∧ True) 19 19 rfl (by kernel_rfl) (by kernel_rfl) ?_
      change wpAnyH _ _ _ _ _ _ _ _ v201.drew
      have hd203 : Below v201.heap.size v201 v201.drew := (Below.refl _ _).drew
      have S_204 : Row v201.drew S 68 (ncs pl L.length cl (some ⟨g, 0, none⟩) L.length ck r pin) := S_202.old hd203
      have OL_204 : Sl.Own kR v201.drew 0 pl cl L := OL_202.below hd203
      have OK_204 : Sl.Own kRK v201.drew 0 (some ⟨g, 0, none⟩) ck (L.map keyN) := OK_202.below hd203
      have R_204 : Row v201.drew R 32 (u8s zh) := R_202.old hd203
      have H_204 : Row v201.drew H 32 (u8s (dK x)) := rrH.old hd203
      have bel_204 : Chg F w v201.drew := bel_202.old hd203
      clear S_202 OL_202 OK_202 R_202 rrH bel_202 hd203
      generalize v201.drew = yz203 at S_204 OL_204 OK_204 R_204 H_204 bel_204 ⊢
      have hws0 := bel_204.size
      refine h_take 0 (.pointer (some ⟨S, 0, none⟩)) rfl 43 rfl (by kernel_rfl) (by kernel_rfl) (by kernel_rfl) (by kernel_rfl) (fun _ _ _ h => h) (fun w' _ => by kernel_rfl) ⟨S_204, trivial⟩ ?_
      simp only [Act.put, List.setIfInBounds_toArray, List.set_cons_zero, List.set_cons_succ]
      refine h_take 2 (.pointer (some ⟨S, 0, none⟩)) rfl 45 rfl (by kernel_rfl) (by kernel_rfl) (by kernel_rfl) (by kernel_rfl) (fun _ _ _ h => h) (fun w' _ => by kernel_rfl) ⟨S_204, trivial⟩ ?_
      simp only [Act.put, List.setIfInBounds_toArray, List.set_cons_zero, List.set_cons_succ]
      refine h_take 3 (.pointer (some ⟨S, 0, none⟩)) rfl 46 rfl (by kernel_rfl) (by kernel_rfl) (by kernel_rfl) (by kernel_rfl) (fun _ _ _ h => h) (fun w' _ => by kernel_rfl) ⟨S_204, trivial⟩ ?_
      simp only [Act.put, List.setIfInBounds_toArray, List.set_cons_zero, List.set_cons_succ]
      refine h_take 4 (.pointer (some ⟨S, 0, none⟩)) rfl 47 rfl (by kernel_rfl) (by kernel_rfl) (by kernel_rfl) (by kernel_rfl) (fun _ _ _ h => h) (fun w' _ => by kernel_rfl) ⟨S_204, trivial⟩ ?_
      simp only [Act.put, List.setIfInBounds_toArray, List.set_cons_zero, List.set_cons_succ]
      refine h_take 5 (.slice pl L.length cl) rfl 48 rfl (by kernel_rfl) (by kernel_rfl) (by kernel_rfl) (by kernel_rfl) (fun _ _ _ h => h) (fun w' hw => run_op_load1 _ _ rfl (.slice 55) fR.und rfl ⟨S, 0, none⟩ rfl (.slice pl L.length cl) (hw.1.cell (i := 0) rfl)) ⟨S_204, trivial⟩ ?_
      simp only [Act.put, List.setIfInBounds_toArray, List.set_cons_zero, List.set_cons_succ]
      refine h_take 6 (.int .i64 (u : Int)) rfl 49 rfl (by kernel_rfl) (by kernel_rfl) (by kernel_rfl) (by kernel_rfl) (fun _ _ _ h => h) (fun w' _ => by kernel_rfl) ⟨S_204, trivial⟩ ?_
      simp only [Act.put, List.setIfInBounds_toArray, List.set_cons_zero, List.set_cons_succ]
      refine h_take 7 (.slice pl u cl) rfl 50 rfl (by kernel_rfl) (by kernel_rfl) (by kernel_rfl) (by kernel_rfl) (fun _ _ _ h => h) (fun w' _ => Sl.run_op_head fR _ _ rfl _ _ _ rfl .i64 _ rfl u rfl IC.out w') ⟨S_204, trivial⟩ ?_
      simp only [Act.put, List.setIfInBounds_toArray, List.set_cons_zero, List.set_cons_succ]
      refine h_take 9 (.pointer (some ⟨S, 0, none⟩)) rfl 52 rfl (by kernel_rfl) (by kernel_rfl) (by kernel_rfl) (by kernel_rfl) (fun _ _ _ h => h) (fun w' _ => by kernel_rfl) ⟨S_204, trivial⟩ ?_
      simp only [Act.put, List.setIfInBounds_toArray, List.set_cons_zero, List.set_cons_succ]
      refine h_take 10 (.pointer (some ⟨S, 0, none⟩)) rfl 53 rfl (by kernel_rfl) (by kernel_rfl) (by kernel_rfl) (by kernel_rfl) (fun _ _ _ h => h) (fun w' _ => by kernel_rfl) ⟨S_204, trivial⟩ ?_
      simp only [Act.put, List.setIfInBounds_toArray, List.set_cons_zero, List.set_cons_succ]
      refine h_take 11 (.pointer (some ⟨S, 0, none⟩)) rfl 54 rfl (by kernel_rfl) (by kernel_rfl) (by kernel_rfl) (by kernel_rfl) (fun _ _ _ h => h) (fun w' _ => by kernel_rfl) ⟨S_204, trivial⟩ ?_
      simp only [Act.put, List.setIfInBounds_toArray, List.set_cons_zero, List.set_cons_succ]
      refine h_take 12 (.slice pl L.length cl) rfl 55 rfl (by kernel_rfl) (by kernel_rfl) (by kernel_rfl) (by kernel_rfl) (fun _ _ _ h => h) (fun w' hw => run_op_load1 _ _ rfl (.slice 55) fR.und rfl ⟨S, 0, none⟩ rfl (.slice pl L.length cl) (hw.1.cell (i := 0) rfl)) ⟨S_204, trivial⟩ ?_
      simp only [Act.put, List.setIfInBounds_toArray, List.set_cons_zero, List.set_cons_succ]
      refine h_take 13 (.int .i64 (u : Int)) rfl 56 rfl (by kernel_rfl) (by kernel_rfl) (by kernel_rfl) (by kernel_rfl) (fun _ _ _ h => h) (fun w' _ => by kernel_rfl) ⟨S_204, trivial⟩ ?_
      simp only [Act.put, List.setIfInBounds_toArray, List.set_cons_zero, List.set_cons_succ]
      refine h_take 14 (.int .i64 ((u : Int) + 1)) rfl 57 rfl (by kernel_rfl) (by kernel_rfl) (by kernel_rfl) (by kernel_rfl) (fun _ _ _ h => h) (fun w' _ => run_op_add _ _ _ _ rfl _ _ rfl rfl HW1.out w') ⟨S_204, trivial⟩ ?_
      simp only [Act.put, List.setIfInBounds_toArray, List.set_cons_zero, List.set_cons_succ]
      refine h_take 15 (.slice (Sl.onN pl (u + 1) 363 cl) (L.length - (u + 1)) (cl - (u + 1))) rfl 58 rfl (by kernel_rfl) (by kernel_rfl) (by kernel_rfl) (by kernel_rfl) (fun _ _ _ h => h) (fun w' _ => Sl.run_op_tail fR _ _ rfl _ _ _ rfl .i64 _ rfl (u + 1) (by omega) (by omega) w') ⟨S_204, trivial⟩ ?_
      simp only [Act.put, List.setIfInBounds_toArray, List.set_cons_zero, List.set_cons_succ]
      refine Sl.h_cat2 (i := 1) (j := 8) (n := 16) rfl rfl rfl (by kernel_rfl) (by kernel_rfl) (by kernel_rfl) fR 44 51 59 rfl rfl rfl rfl rfl rfl _ rfl rfl _ _ _ _ rfl rfl (pl) (Sl.onN pl (u + 1) 363 cl) (u) (L.length - (u + 1)) (cl) (cl - (u + 1)) (L.take u) (L.drop (u + 1)) (TKL.out) (DKL.out) ((OL_204.at fR).take u) ((OL_204.at fR).tail (u + 1) KCM.out) (TDL.out) (fun _ => rfl) (fun _ => rfl) (fun _ _ => rfl) (fun _ _ => rfl) (fun w' hB => ⟨S_204.old hB, trivial⟩) ?_
      intro _ _ p' c' y2 hO2 hB
      have S_205 : Row y2 S 68 (ncs pl L.length cl (some ⟨g, 0, none⟩) L.length ck r pin) := S_204.old hB
      have OL_205 : Sl.Own kR y2 0 pl cl L := OL_204.below hB
      have OK_205 : Sl.Own kRK y2 0 (some ⟨g, 0, none⟩) ck (L.map keyN) := OK_204.below hB
      have R_205 : Row y2 R 32 (u8s zh) := R_204.old hB
      have H_205 : Row y2 H 32 (u8s (dK x)) := H_204.old hB
      have bel_205 : Chg F w y2 := bel_204.old hB
      clear S_204 OL_204 OK_204 R_204 H_204 bel_204 hB
      simp only [Act.put, List.setIfInBounds_toArray, List.set_cons_zero, List.set_cons_succ]
      refine h_take 17 (.pointer (some ⟨S, 0, none⟩)) rfl 60 rfl (by kernel_rfl) (by kernel_rfl) (by kernel_rfl) (by kernel_rfl) (fun _ _ _ h => h) (fun w' _ => by kernel_rfl) ⟨S_205, trivial⟩ ?_
      simp only [Act.put, List.setIfInBounds_toArray, List.set_cons_zero, List.set_cons_succ]
      refine h_take 18 (.pointer (some ⟨S, 0, none⟩)) rfl 61 rfl (by kernel_rfl) (by kernel_rfl) (by kernel_rfl) (by kernel_rfl) (fun _ _ _ h => h) (fun w' _ => by kernel_rfl) ⟨S_205, trivial⟩ ?_
      simp only [Act.put, List.setIfInBounds_toArray, List.set_cons_zero, List.set_cons_succ]
      rw [HER.out] at hO2 ⊢
      refine wpAnyH_done (by kernel_rfl) ?_ _
      refine last_normal ?_
      refine o_skip rfl rfl (by kernel_rfl) (run_op_storeV _ _ _ rfl S (0) rfl (.slice p' (L.eraseIdx u).length c') rfl (one_sl _ _ _) sz_slR _ _ S_205 (lt_ncs 0 (by decide) _ _ _ _ _ _ _ _)) ?_
      have rq := row_setRow S_205 ((ncs pl L.length cl (some ⟨g, 0, none⟩) L.length ck r pin).set (0) (.slice p' (L.eraseIdx u).length c'))
      have oq := Only.setRow S y2 ((ncs pl L.length cl (some ⟨g, 0, none⟩) L.length ck r pin).set (0) (.slice p' (L.eraseIdx u).length c')).toArray
      generalize y2.setRow S ((ncs pl L.length cl (some ⟨g, 0, none⟩) L.length ck r pin).set (0) (.slice p' (L.eraseIdx u).length c')).toArray = y3 at rq oq ⊢
      have hSy3 : Row y3 S 68 (ncs p' (L.eraseIdx u).length c' (some ⟨g, 0, none⟩) L.length ck r pin) := rq
      have hfr0 : From (fun k => bk p' = some k) w.heap.size := fun j e => Nat.le_trans hws0 (hO2.ge e).1
      have hM0 := hO2.low (Nat.zero_le _)
      clear rq hO2
      clear OL_205
      have S_206 : Row y3 S 68 (ncs p' (L.eraseIdx u).length c' (some ⟨g, 0, none⟩) L.length ck r pin) := hSy3
      have OK_206 : Sl.Own kRK y3 0 (some ⟨g, 0, none⟩) ck (L.map keyN) := OK_205.only oq (OK_205.ne S_205 (by decide))
      have R_206 : Row y3 R 32 (u8s zh) := R_205.only oq (R_205.ne_type S_205 (by decide))
      have H_206 : Row y3 H 32 (u8s (dK x)) := H_205.only oq (H_205.ne_type S_205 (by decide))
      have OM_206 : Sl.Own kR y3 0 p' c' (L.eraseIdx u) := hM0.only oq (hM0.ne S_205 (by decide))
      have bel_206 : Chg F w y3 := bel_205.only oq (FS.out)
      clear S_205 OK_205 R_205 H_205 hM0 bel_205 oq
      go_wp2_with fail
      refine wp_region_last (S := fun w' => Row w' S 68 (ncs p' (L.eraseIdx u).length c' (some ⟨g, 0, none⟩) L.length ck r pin) ∧ True) 19 19 rfl (by kernel_rfl) (by kernel_rfl) ?_
      change wpAnyH _ _ _ _ _ _ _ _ y3.drew
      have hd207 : Below y3.heap.size y3 y3.drew := (Below.refl _ _).drew
      have S_208 : Row y3.drew S 68 (ncs p' (L.eraseIdx u).length c' (some ⟨g, 0, none⟩) L.length ck r pin) := S_206.old hd207
      have OK_208 : Sl.Own kRK y3.drew 0 (some ⟨g, 0, none⟩) ck (L.map keyN) := OK_206.below hd207
      have R_208 : Row y3.drew R 32 (u8s zh) := R_206.old hd207
      have H_208 : Row y3.drew H 32 (u8s (dK x)) := H_206.old hd207
      have OM_208 : Sl.Own kR y3.drew 0 p' c' (L.eraseIdx u) := OM_206.below hd207
      have bel_208 : Chg F w y3.drew := bel_206.old hd207
      clear S_206 OK_206 R_206 H_206 OM_206 bel_206 hd207
      generalize y3.drew = yz207 at S_208 OK_208 R_208 H_208 OM_208 bel_208 ⊢
      have hws1 := bel_208.size
      refine h_take 0 (.pointer (some ⟨S, 0, none⟩)) rfl 62 rfl (by kernel_rfl) (by kernel_rfl) (by kernel_rfl) (by kernel_rfl) (fun _ _ _ h => h) (fun w' _ => by kernel_rfl) ⟨S_208, trivial⟩ ?_
      simp only [Act.put, List.setIfInBounds_toArray, List.set_cons_zero, List.set_cons_succ]
      refine h_take 2 (.pointer (some ⟨S, 0, none⟩)) rfl 64 rfl (by kernel_rfl) (by kernel_rfl) (by kernel_rfl) (by kernel_rfl) (fun _ _ _ h => h) (fun w' _ => by kernel_rfl) ⟨S_208, trivial⟩ ?_
      simp only [Act.put, List.setIfInBounds_toArray, List.set_cons_zero, List.set_cons_succ]
      refine h_take 3 (.pointer (some ⟨S, 0, none⟩)) rfl 65 rfl (by kernel_rfl) (by kernel_rfl) (by kernel_rfl) (by kernel_rfl) (fun _ _ _ h => h) (fun w' _ => by kernel_rfl) ⟨S_208, trivial⟩ ?_
      simp only [Act.put, List.setIfInBounds_toArray, List.set_cons_zero, List.set_cons_succ]
      refine h_take 4 (.pointer (some ⟨S, 1, none⟩)) rfl 66 rfl (by kernel_rfl) (by kernel_rfl) (by kernel_rfl) (by kernel_rfl) (fun _ _ _ h => h) (fun w' _ => by kernel_rfl) ⟨S_208, trivial⟩ ?_
      simp only [Act.put, List.setIfInBounds_toArray, List.set_cons_zero, List.set_cons_succ]
      refine h_take 5 (.slice (some ⟨g, 0, none⟩) L.length ck) rfl 67 rfl (by kernel_rfl) (by kernel_rfl) (by kernel_rfl) (by kernel_rfl) (fun _ _ _ h => h) (fun w' hw => run_op_load1 _ _ rfl (.slice 84) fRK.und rfl ⟨S, 1, none⟩ rfl (.slice (some ⟨g, 0, none⟩) L.length ck) (hw.1.cell (i := 1) rfl)) ⟨S_208, trivial⟩ ?_
      simp only [Act.put, List.setIfInBounds_toArray, List.set_cons_zero, List.set_cons_succ]
      refine h_take 6 (.int .i64 (u : Int)) rfl 68 rfl (by kernel_rfl) (by kernel_rfl) (by kernel_rfl) (by kernel_rfl) (fun _ _ _ h => h) (fun w' _ => by kernel_rfl) ⟨S_208, trivial⟩ ?_
      simp only [Act.put, List.setIfInBounds_toArray, List.set_cons_zero, List.set_cons_succ]
      refine h_take 7 (.slice (some ⟨g, 0, none⟩) u ck) rfl 69 rfl (by kernel_rfl) (by kernel_rfl) (by kernel_rfl) (by kernel_rfl) (fun _ _ _ h => h) (fun w' _ => Sl.run_op_head fRK _ _ rfl _ _ _ rfl .i64 _ rfl u rfl IK.out w') ⟨S_208, trivial⟩ ?_
      simp only [Act.put, List.setIfInBounds_toArray, List.set_cons_zero, List.set_cons_succ]
      refine h_take 9 (.pointer (some ⟨S, 0, none⟩)) rfl 71 rfl (by kernel_rfl) (by kernel_rfl) (by kernel_rfl) (by kernel_rfl) (fun _ _ _ h => h) (fun w' _ => by kernel_rfl) ⟨S_208, trivial⟩ ?_
      simp only [Act.put, List.setIfInBounds_toArray, List.set_cons_zero, List.set_cons_succ]
      refine h_take 10 (.pointer (some ⟨S, 0, none⟩)) rfl 72 rfl (by kernel_rfl) (by kernel_rfl) (by kernel_rfl) (by kernel_rfl) (fun _ _ _ h => h) (fun w' _ => by kernel_rfl) ⟨S_208, trivial⟩ ?_
      simp only [Act.put, List.setIfInBounds_toArray, List.set_cons_zero, List.set_cons_succ]
      refine h_take 11 (.pointer (some ⟨S, 1, none⟩)) rfl 73 rfl (by kernel_rfl) (by kernel_rfl) (by kernel_rfl) (by kernel_rfl) (fun _ _ _ h => h) (fun w' _ => by kernel_rfl) ⟨S_208, trivial⟩ ?_
      simp only [Act.put, List.setIfInBounds_toArray, List.set_cons_zero, List.set_cons_succ]
      refine h_take 12 (.slice (some ⟨g, 0, none⟩) L.length ck) rfl 74 rfl (by kernel_rfl) (by kernel_rfl) (by kernel_rfl) (by kernel_rfl) (fun _ _ _ h => h) (fun w' hw => run_op_load1 _ _ rfl (.slice 84) fRK.und rfl ⟨S, 1, none⟩ rfl (.slice (some ⟨g, 0, none⟩) L.length ck) (hw.1.cell (i := 1) rfl)) ⟨S_208, trivial⟩ ?_
      simp only [Act.put, List.setIfInBounds_toArray, List.set_cons_zero, List.set_cons_succ]
      refine h_take 13 (.int .i64 (u : Int)) rfl 75 rfl (by kernel_rfl) (by kernel_rfl) (by kernel_rfl) (by kernel_rfl) (fun _ _ _ h => h) (fun w' _ => by kernel_rfl) ⟨S_208, trivial⟩ ?_
      simp only [Act.put, List.setIfInBounds_toArray, List.set_cons_zero, List.set_cons_succ]
      refine h_take 14 (.int .i64 ((u : Int) + 1)) rfl 76 rfl (by kernel_rfl) (by kernel_rfl) (by kernel_rfl) (by kernel_rfl) (fun _ _ _ h => h) (fun w' _ => run_op_add _ _ _ _ rfl _ _ rfl rfl HW1.out w') ⟨S_208, trivial⟩ ?_
      simp only [Act.put, List.setIfInBounds_toArray, List.set_cons_zero, List.set_cons_succ]
      refine h_take 15 (.slice (Sl.onN (some ⟨g, 0, none⟩) (u + 1) 65 ck) (L.length - (u + 1)) (ck - (u + 1))) rfl 77 rfl (by kernel_rfl) (by kernel_rfl) (by kernel_rfl) (by kernel_rfl) (fun _ _ _ h => h) (fun w' _ => Sl.run_op_tail fRK _ _ rfl _ _ _ rfl .i64 _ rfl (u + 1) (by omega) (by omega) w') ⟨S_208, trivial⟩ ?_
      simp only [Act.put, List.setIfInBounds_toArray, List.set_cons_zero, List.set_cons_succ]
      refine Sl.h_cat2 (i := 1) (j := 8) (n := 16) rfl rfl rfl (by kernel_rfl) (by kernel_rfl) (by kernel_rfl) fRK 63 70 78 rfl rfl rfl rfl rfl rfl _ rfl rfl _ _ _ _ rfl rfl ((some ⟨g, 0, none⟩)) (Sl.onN (some ⟨g, 0, none⟩) (u + 1) 65 ck) (u) (L.length - (u + 1)) (ck) (ck - (u + 1)) ((L.map keyN).take u) ((L.map keyN).drop (u + 1)) (TKK.out) (DKK.out) ((OK_208.at fRK).take u) ((OK_208.at fRK).tail (u + 1) KKM.out) (TDK.out) (fun _ => rfl) (fun _ => rfl) (fun _ _ => rfl) (fun _ _ => rfl) (fun w' hB => ⟨S_208.old hB, trivial⟩) ?_
      intro _ _ q' d' y4 hO4 hB
      have S_209 : Row y4 S 68 (ncs p' (L.eraseIdx u).length c' (some ⟨g, 0, none⟩) L.length ck r pin) := S_208.old hB
      have OK_209 : Sl.Own kRK y4 0 (some ⟨g, 0, none⟩) ck (L.map keyN) := OK_208.below hB
      have R_209 : Row y4 R 32 (u8s zh) := R_208.old hB
      have H_209 : Row y4 H 32 (u8s (dK x)) := H_208.old hB
      have OM_209 : Sl.Own kR y4 0 p' c' (L.eraseIdx u) := OM_208.below hB
      have bel_209 : Chg F w y4 := bel_208.old hB
      clear S_208 OK_208 R_208 H_208 OM_208 bel_208 hB
      simp only [Act.put, List.setIfInBounds_toArray, List.set_cons_zero, List.set_cons_succ]
      refine h_take 17 (.pointer (some ⟨S, 0, none⟩)) rfl 79 rfl (by kernel_rfl) (by kernel_rfl) (by kernel_rfl) (by kernel_rfl) (fun _ _ _ h => h) (fun w' _ => by kernel_rfl) ⟨S_209, trivial⟩ ?_
      simp only [Act.put, List.setIfInBounds_toArray, List.set_cons_zero, List.set_cons_succ]
      refine h_take 18 (.pointer (some ⟨S, 1, none⟩)) rfl 80 rfl (by kernel_rfl) (by kernel_rfl) (by kernel_rfl) (by kernel_rfl) (fun _ _ _ h => h) (fun w' _ => by kernel_rfl) ⟨S_209, trivial⟩ ?_
      simp only [Act.put, List.setIfInBounds_toArray, List.set_cons_zero, List.set_cons_succ]
      rw [HERK.out] at hO4 ⊢
      rw [HLM.out]
      refine wpAnyH_done (by kernel_rfl) ?_ _
      refine last_normal ?_
      refine o_skip rfl rfl (by kernel_rfl) (run_op_storeV _ _ _ rfl S (1) rfl (.slice q' (L.eraseIdx u).length d') rfl (one_sl _ _ _) sz_slRK _ _ S_209 (lt_ncs 1 (by decide) _ _ _ _ _ _ _ _)) ?_
      have rq := row_setRow S_209 ((ncs p' (L.eraseIdx u).length c' (some ⟨g, 0, none⟩) L.length ck r pin).set (1) (.slice q' (L.eraseIdx u).length d'))
      have oq := Only.setRow S y4 ((ncs p' (L.eraseIdx u).length c' (some ⟨g, 0, none⟩) L.length ck r pin).set (1) (.slice q' (L.eraseIdx u).length d')).toArray
      generalize y4.setRow S ((ncs p' (L.eraseIdx u).length c' (some ⟨g, 0, none⟩) L.length ck r pin).set (1) (.slice q' (L.eraseIdx u).length d')).toArray = y5 at rq oq ⊢
      have hSy5 : Row y5 S 68 (ncs p' (L.eraseIdx u).length c' q' (L.eraseIdx u).length d' r pin) := rq
      have hfr1 : From (fun k => bk q' = some k) w.heap.size := fun j e => Nat.le_trans hws1 (hO4.ge e).1
      have hM1 := hO4.low (Nat.zero_le _)
      clear rq hO4
      clear OK_209
      have S_210 : Row y5 S 68 (ncs p' (L.eraseIdx u).length c' q' (L.eraseIdx u).length d' r pin) := hSy5
      have R_210 : Row y5 R 32 (u8s zh) := R_209.only oq (R_209.ne_type S_209 (by decide))
      have H_210 : Row y5 H 32 (u8s (dK x)) := H_209.only oq (H_209.ne_type S_209 (by decide))
      have OM_210 : Sl.Own kR y5 0 p' c' (L.eraseIdx u) := OM_209.only oq (OM_209.ne S_209 (by decide))
      have ON_210 : Sl.Own kRK y5 0 q' d' ((L.eraseIdx u).map keyN) := hM1.only oq (hM1.ne S_209 (by decide))
      have bel_210 : Chg F w y5 := bel_209.only oq (FS.out)
      clear S_209 R_209 H_209 OM_209 hM1 bel_209 oq
      have nRS : R ≠ S := R_210.ne_type S_210 (by decide)
      have nOM := OM_210.ne R_210 (by decide)
      have nON := ON_210.ne R_210 (by decide)
      go_wp2_with (first
        | ((with_reducible refine at_slot 81 ?_); (refine arm_want (.agg (u8s (dK x)).toArray) 81 rfl (by kernel_rfl) (run_op_load _ _ rfl H (0) rfl (u8s (dK x)) ((Has.refl _).range H_210) ((szH KX.out))) ?_); try simp only [Act.put, List.setIfInBounds_toArray, List.set_cons_zero, List.set_cons_succ])
        | ((with_reducible refine arm_store (o := ⟨none, _, _, _, _, _⟩) rfl _ _ _ rfl R 0 rfl (u8s (dK x)) rfl _ _ R_210 (fitH KX.out) (u8s_one _) (szH KX.out) ?_); intro yR hR oR sR; try simp only [Act.put, List.setIfInBounds_toArray, List.set_cons_zero, List.set_cons_succ]))
      refine bodyPost_ret (result_row2 (p := 2) (u := 3) (ty := 32) (t := 32) (by kernel_rfl) _ _ R (u8s (dK x)) (.bool true) rfl rfl (hR.congr (allH KX.out)) (szH KX.out)) rfl ?_
      exact ⟨by rw [HLE.out]; rfl, by rw [HLE.out]; exact rs_done (S_210.only oR (Ne.symm nRS)) (OM_210.only oR nOM) (ON_210.only oR nON) hfr0 hfr1 PO.out HLI.out (Nat.le_trans bel_210.size oR.size) FS.out, bel_210.new oR geR⟩
end Go.Proofs.YtnjmocobncncdaaGreatDoor.So

/-
  The contract of the document's lay, of layer 19. Over this seat's translation.
-/
namespace Go.Proofs.YtnjmocobncncdaaGreatDoor.So
open Go.ChangeShapes Go.WideShapes Go.ChangeAt Go.RowKit Go.Proofs.YtnjmocobncncdaaGreatDoor.Mem Go.Proofs.YtnjmocobncncdaaGreatDoor.Bt
open Go.Proofs.YtnjmocobncncdaaGreatDoor.Ep (H32 zh zh_ok Has h_len szH zH fitH allH one_app)
open Go.Proofs.YtnjmocobncncdaaGreatDoor.Sl (Kind At bk)
open Go.Proofs.YtnjmocobncncdaaGreatDoor.Sa (Sta scs digS)
open Go.Proofs.YtnjmocobncncdaaGreatDoor.Od (Ky kcs kRK fRK keyN kcs_len k33)
open Go.Proofs.YtnjmocobncncdaaGreatDoor.Sha (ks)
open Go.Proofs.YtnjmocobncncdaaGreatDoor.Lk (kR fR)
set_option linter.unusedVariables false
set_option linter.unusedSimpArgs false

theorem range_kk {w w' : World} {g o : Nat} {x : Ky} (h : w.rangeAt g o (kcs x)) (hb : Below w.heap.size w w') : w'.rangeAt g o (kcs x) :=
  range_block h (hb.block g (range_lt h (fun e => by cases e)))
def rvK (s : Sta) : Nat := Od.kval (keyN s)
theorem cmp_lt {a b : Ky} : Od.kcmp a b < 0 ↔ Od.kval a < Od.kval b := by
  unfold Od.kcmp Od.cmpN
  split
  · exact ⟨fun _ => by omega, fun _ => by omega⟩
  · split
    · exact ⟨fun h => by omega, fun h => by omega⟩
    · exact ⟨fun h => by omega, fun h => by omega⟩
theorem insK_at {x : Sta} : ∀ {L : List Sta} {i : Nat}, i ≤ L.length → (∀ j q, j < i → L[j]? = some q → rvK q < rvK x) → (∀ q, L[i]? = some q → ¬ rvK q < rvK x) → ins rvK x L = L.take i ++ [x] ++ L.drop i
  | [], i, hi, _, _ => by
    obtain rfl : i = 0 := by simpa using hi
    rfl
  | q :: L, 0, _, _, hn => by
    unfold ins
    rw [if_neg (hn q rfl)]
    rfl
  | q :: L, i + 1, hi, hl, hn => by
    unfold ins
    rw [if_pos (hl 0 q (by omega) rfl), insK_at (L := L) (i := i) (by simpa using hi) (fun j r hj hr => hl (j + 1) r (by omega) (by simpa using hr)) (fun r hr => hn r (by simpa using hr))]
    rfl
structure LyRel (w : World) (L : List Sta) (x : Sta) (i : Value) (wr : World) : Prop where
  ex : ∃ k : Nat, k ≤ L.length ∧ i = .int .i64 (k : Int) ∧ ∀ j q, j < k → L[j]? = some q → rvK q < rvK x
  bel : Below w.heap.size w wr
structure RLayPost (w : World) (F : Nat → Prop) (S r : Nat) (pin : Option (List Nat)) (L : List Sta) (x : Sta) (e : Ending) (w' : World) : Prop where
  ret : e = .returned (.tuple #[])
  at_ : ∃ F', RSAt w' F' S r pin (ins rvK x L) ∧ Grew F F' w.heap.size
  chg : Chg F w w'
set_option maxHeartbeats 4000000 in
set_option maxRecDepth 100000 in
theorem rslay_any (F : Nat → Prop) (S r : Nat) (pin : Option (List Nat)) (L : List Sta) (x : Sta) (w : World) (hC : RSAt w F S r pin L) (hl : L.length ≤ 1000) (ok : x.Ok) (hk : w.rangeAt 0 0 (u32s ks)) :
    Calls Tryz.prog 27 #[.pointer (some ⟨S, 0, none⟩), .agg (scs x).toArray] w (RLayPost w F S r pin L x) := by
  obtain ⟨⟨pl, cl, pk, ck, hS0, hOL, hOK, fS, fl, fk⟩, hpo, hli⟩ := hC
  have hk1 : 0 < w.heap.size := range_lt hk (by simp [u32s, ks])
  have HKW : Hid (∀ w', Below w.heap.size w w' → w'.rangeAt 0 0 (u32s ks)) := Lib.hid fun w' hb => range_block hk (hb.block _ hk1)
  have CO := Lib.hid (fun w0 h => Od.rof_any x w0 ok h)
  have KX := Lib.hid ok
  have KK : Hid (keyN x).Ok := Lib.hid ⟨ok.len, ok.draw, Sa.digS_ok x⟩
  have FS := Lib.hid fS; have PO := Lib.hid hpo; have HLI := Lib.hid hli; have HL := Lib.hid hl
  clear fl fk fS hpo hli hl hk hk1 ok
  go_enter Tryz.func27, Tryz.ntmps27
  have bel0 : Chg (fun _ => False) w w := Chg.refl _ _
  go_wp2_with (first
    | ((with_reducible refine at_slot 3 ?_); (refine arm_box (o := ⟨some 3, _, _, _, _, _⟩) rfl _ _ rfl (scs x) rfl ?_); intro X v1 Xe hv1 nv1; try simp only [Act.put, List.setIfInBounds_toArray, List.set_cons_zero, List.set_cons_succ])
    | ((with_reducible refine at_slot 6 ?_); (refine arm_want (.agg (scs x).toArray) 6 rfl (by kernel_rfl) (run_op_load _ _ rfl X (0) rfl (scs x) ((Has.refl _).range hv1) ((Sa.sz_rsta KX.out))) ?_); try simp only [Act.put, List.setIfInBounds_toArray, List.set_cons_zero, List.set_cons_succ]))
  have hbv1 := nv1.below
  have rrv1 : Row v1 X 55 (scs x) := hv1
  have geX : w.heap.size ≤ X := by have := Xe.out; have := bel0.size; omega
  have lXx : w.heap.size ≤ X := by have := Xe.out; omega
  clear hv1 nv1 Xe
  have S_2 : Row v1 S 68 (ncs pl L.length cl pk L.length ck r pin) := hS0.old hbv1
  have OL_2 : Sl.Own kR v1 0 pl cl L := hOL.below hbv1
  have OK_2 : Sl.Own kRK v1 0 pk ck (L.map keyN) := hOK.below hbv1
  have bel_2 : Chg (fun _ => False) w v1 := bel0.old hbv1
  clear hS0 hOL hOK bel0 hbv1
  refine (CO.out _ (HKW.out _ (bel_2.below (fun k hk => hk.elim) (Nat.le_refl _)))).mono ?_
  rintro e y ⟨rfl, hB⟩
  have S_3 : Row y S 68 (ncs pl L.length cl pk L.length ck r pin) := S_2.old hB
  have OL_3 : Sl.Own kR y 0 pl cl L := OL_2.below hB
  have OK_3 : Sl.Own kRK y 0 pk ck (L.map keyN) := OK_2.below hB
  have X_3 : Row y X 55 (scs x) := rrv1.old hB
  have bel_3 : Chg (fun _ => False) w y := bel_2.old hB
  clear S_2 OL_2 OK_2 rrv1 bel_2 hB
  go_wp2_with (first
    | ((with_reducible refine at_slot 4 ?_); (refine arm_alloc (o := ⟨some 4, _, _, _, _, _⟩) rfl _ rfl (kcs Od.zk) Od.z_rkey ?_); intro K v4a Ke hKa nK; try simp only [Act.put, List.setIfInBounds_toArray, List.set_cons_zero, List.set_cons_succ])
    | ((with_reducible refine arm_store (o := ⟨none, _, _, _, _, _⟩) rfl _ _ _ rfl K 0 rfl (kcs (keyN x)) rfl _ _ hKa (Od.fitK KK.out) (Od.kcs_one _) (Od.sz_rkey KK.out) ?_); intro v4 hKb oK sK; try simp only [Act.put, List.setIfInBounds_toArray, List.set_cons_zero, List.set_cons_succ]))
  have lK : y.heap.size ≤ K := by have := Ke.out; omega
  have bK : Below y.heap.size y v4 := below_only nK.below oK lK nK.below.size
  have rrK : Row v4 K 84 (kcs (keyN x)) := hKb.congr (Od.allK KK.out)
  have geK : w.heap.size ≤ K := Nat.le_trans bel_3.size lK
  have lKx := lK
  clear hKa hKb nK oK sK Ke lK
  have S_5 : Row v4 S 68 (ncs pl L.length cl pk L.length ck r pin) := S_3.old bK
  have OL_5 : Sl.Own kR v4 0 pl cl L := OL_3.below bK
  have OK_5 : Sl.Own kRK v4 0 pk ck (L.map keyN) := OK_3.below bK
  have X_5 : Row v4 X 55 (scs x) := X_3.old bK
  have bel_5 : Chg (fun _ => False) w v4 := bel_3.old bK
  clear S_3 OL_3 OK_3 X_3 bel_3 bK
  try simp only [Act.put]
  have h0 : LyRel v4 L x (.int .i64 0) v4 := ⟨⟨0, by omega, rfl, fun j y hj => by omega⟩, Below.refl _ _⟩
  have HBX : Hid (Below w.heap.size w v4) := Lib.hid (bel_5.below (fun k hk => hk.elim) (Nat.le_refl _))
  have HS0 := Lib.hid S_5; have HOL := Lib.hid OL_5; have HOK := Lib.hid OK_5; have HX0 := Lib.hid X_5; have HK0 := Lib.hid rrK
  clear bel_5 S_5 OL_5 OK_5 X_5 rrK
  generalize v4 = W0 at h0 HBX HS0 HOL HOK HX0 HK0 ⊢
  go_loopw [5] (fun i wr => LyRel W0 L x i wr) (fun i _ => L.length - (intOf i).toNat)
  case atStart => exact h0
  case round =>
    clear h0
    obtain ⟨⟨k, hk, rfl, hlow⟩, bel⟩ := hrel
    have hL := HL.out
    have hSr := HS0.out.old bel; have hXr := HX0.out.old bel; have hKr := HK0.out.old bel; have hLr := HOL.out.below bel; have hKo := HOK.out.below bel
    have belF : Chg F w wr := (Chg.of_below F (HBX.out.trans (bel.mono HBX.out.size)))
    by_cases hlt : k < L.length
    · obtain ⟨z, hz⟩ : ∃ z, L[k]? = some z := ⟨_, List.getElem?_eq_getElem hlt⟩
      obtain ⟨g, cs0, rr0, hp, _, _, _, _⟩ := hKo.as_row (by rw [List.length_map]; omega)
      subst hp
      have hkz : (L.map keyN)[k]? = some (keyN z) := by rw [List.getElem?_map, hz]; rfl
      have kz : (keyN z).Ok := Sl.AllOk.get hKo.ok hkz
      have KZ := Lib.hid kz
      have CC := Lib.hid (fun w0 => Od.rcompare_any (keyN z) (keyN x) w0 kz KK.out)
      have hrz : wr.rangeAt g (0 + k * 65) (kcs (keyN z)) := by
        obtain ⟨g', o', ep, _, hrx⟩ := (hKo.at fRK).at_ k (keyN z) hkz
        obtain ⟨rfl, rfl⟩ : g = g' ∧ 0 = o' := by simpa using ep
        exact hrx
      have d1 : decide ((k : Int) < (L.length : Int)) = true := decide_eq_true (by omega)
      have HLW := Lib.hid hlow; have HZ := Lib.hid hz; have BEL := Lib.hid bel
      obtain ⟨c, hc⟩ : ∃ c, c = Od.kcmp (keyN z) (keyN x) := ⟨_, rfl⟩
      have HCV := Lib.hid hc
      rw [← hc] at CC
      clear hlow hz bel hkz kz hc
      by_cases hcz : c < 0
      · have d2 : decide (c < 0) = true := decide_eq_true hcz
        have HCZ := Lib.hid hcz
        clear hcz
        have hbr : Below wr.heap.size wr wr := Below.refl _ _
        go_wp2_with fail
        refine wp_region_held (S := fun w' => Row w' S 68 (ncs pl L.length cl (some ⟨g, 0, none⟩) L.length ck r pin) ∧ Row w' K 84 (kcs (keyN x)) ∧ w'.rangeAt g (0 + k * 65) (kcs (keyN z)) ∧ True) (by kernel_rfl) ?_
        change wpAnyH _ _ _ _ _ _ _ _ wr.drew
        have hd201 : Below wr.heap.size wr wr.drew := (Below.refl _ _).drew
        have S_202 : Row wr.drew S 68 (ncs pl L.length cl (some ⟨g, 0, none⟩) L.length ck r pin) := hSr.old hd201
        have OL_202 : Sl.Own kR wr.drew 0 pl cl L := hLr.below hd201
        have OK_202 : Sl.Own kRK wr.drew 0 (some ⟨g, 0, none⟩) ck (L.map keyN) := hKo.below hd201
        have X_202 : Row wr.drew X 55 (scs x) := hXr.old hd201
        have K_202 : Row wr.drew K 84 (kcs (keyN x)) := hKr.old hd201
        have D_202 : wr.drew.rangeAt g (0 + k * 65) (kcs (keyN z)) := range_kk hrz hd201
        have Q_202 : Below wr.heap.size wr wr.drew := below_step hbr hbr.size hd201
        have bel_202 : Chg F w wr.drew := belF.old hd201
        clear hSr hLr hKo hXr hKr hrz hbr belF hd201
        generalize wr.drew = yz201 at S_202 OL_202 OK_202 X_202 K_202 D_202 Q_202 bel_202 ⊢
        refine h_take 0 (.int .i64 (k : Int)) rfl 8 rfl (by kernel_rfl) (by kernel_rfl) (by kernel_rfl) (by kernel_rfl) (fun _ _ _ h => h) (fun w' _ => by kernel_rfl) ⟨S_202, K_202, D_202, trivial⟩ ?_
        simp only [Act.put, List.setIfInBounds_toArray, List.set_cons_zero, List.set_cons_succ]
        refine h_take 1 (.pointer (some ⟨S, 0, none⟩)) rfl 9 rfl (by kernel_rfl) (by kernel_rfl) (by kernel_rfl) (by kernel_rfl) (fun _ _ _ h => h) (fun w' _ => by kernel_rfl) ⟨S_202, K_202, D_202, trivial⟩ ?_
        simp only [Act.put, List.setIfInBounds_toArray, List.set_cons_zero, List.set_cons_succ]
        refine h_take 2 (.pointer (some ⟨S, 0, none⟩)) rfl 10 rfl (by kernel_rfl) (by kernel_rfl) (by kernel_rfl) (by kernel_rfl) (fun _ _ _ h => h) (fun w' _ => by kernel_rfl) ⟨S_202, K_202, D_202, trivial⟩ ?_
        simp only [Act.put, List.setIfInBounds_toArray, List.set_cons_zero, List.set_cons_succ]
        refine h_take 3 (.pointer (some ⟨S, 1, none⟩)) rfl 11 rfl (by kernel_rfl) (by kernel_rfl) (by kernel_rfl) (by kernel_rfl) (fun _ _ _ h => h) (fun w' _ => by kernel_rfl) ⟨S_202, K_202, D_202, trivial⟩ ?_
        simp only [Act.put, List.setIfInBounds_toArray, List.set_cons_zero, List.set_cons_succ]
        refine h_take 4 (.slice (some ⟨g, 0, none⟩) L.length ck) rfl 12 rfl (by kernel_rfl) (by kernel_rfl) (by kernel_rfl) (by kernel_rfl) (fun _ _ _ h => h) (fun w' hw => run_op_load1 _ _ rfl (.slice 84) fRK.und rfl ⟨S, 1, none⟩ rfl (.slice (some ⟨g, 0, none⟩) L.length ck) (hw.1.cell (i := 1) rfl)) ⟨S_202, K_202, D_202, trivial⟩ ?_
        simp only [Act.put, List.setIfInBounds_toArray, List.set_cons_zero, List.set_cons_succ]
        refine h_take 5 (.int .i64 (L.length : Int)) rfl 13 rfl (by kernel_rfl) (by kernel_rfl) (by kernel_rfl) (by kernel_rfl) (fun _ _ _ h => h) (fun w' _ => Sl.run_op_lenK _ _ _ rfl fRK.und _ _ _ rfl w') ⟨S_202, K_202, D_202, trivial⟩ ?_
        simp only [Act.put, List.setIfInBounds_toArray, List.set_cons_zero, List.set_cons_succ]
        refine h_take 6 (.bool true) rfl 14 rfl (by kernel_rfl) (by kernel_rfl) (by kernel_rfl) (by kernel_rfl) (fun _ _ _ h => h) (fun w' _ => cmp_lss _ _ _ _ rfl .i64 (k : Int) (L.length : Int) rfl rfl true d1 w') ⟨S_202, K_202, D_202, trivial⟩ ?_
        simp only [Act.put, List.setIfInBounds_toArray, List.set_cons_zero, List.set_cons_succ]
        refine h_take 7 (.bool true) rfl 15 rfl (by kernel_rfl) (by kernel_rfl) (by kernel_rfl) (by kernel_rfl) (fun _ _ _ h => h) (fun w' _ => by kernel_rfl) ⟨S_202, K_202, D_202, trivial⟩ ?_
        simp only [Act.put, List.setIfInBounds_toArray, List.set_cons_zero, List.set_cons_succ]
        refine h_take 8 (.pointer (some ⟨S, 0, none⟩)) rfl 16 rfl (by kernel_rfl) (by kernel_rfl) (by kernel_rfl) (by kernel_rfl) (fun _ _ _ h => h) (fun w' _ => by kernel_rfl) ⟨S_202, K_202, D_202, trivial⟩ ?_
        simp only [Act.put, List.setIfInBounds_toArray, List.set_cons_zero, List.set_cons_succ]
        refine h_take 9 (.pointer (some ⟨S, 0, none⟩)) rfl 17 rfl (by kernel_rfl) (by kernel_rfl) (by kernel_rfl) (by kernel_rfl) (fun _ _ _ h => h) (fun w' _ => by kernel_rfl) ⟨S_202, K_202, D_202, trivial⟩ ?_
        simp only [Act.put, List.setIfInBounds_toArray, List.set_cons_zero, List.set_cons_succ]
        refine h_take 10 (.pointer (some ⟨S, 1, none⟩)) rfl 18 rfl (by kernel_rfl) (by kernel_rfl) (by kernel_rfl) (by kernel_rfl) (fun _ _ _ h => h) (fun w' _ => by kernel_rfl) ⟨S_202, K_202, D_202, trivial⟩ ?_
        simp only [Act.put, List.setIfInBounds_toArray, List.set_cons_zero, List.set_cons_succ]
        refine h_take 11 (.slice (some ⟨g, 0, none⟩) L.length ck) rfl 19 rfl (by kernel_rfl) (by kernel_rfl) (by kernel_rfl) (by kernel_rfl) (fun _ _ _ h => h) (fun w' hw => run_op_load1 _ _ rfl (.slice 84) fRK.und rfl ⟨S, 1, none⟩ rfl (.slice (some ⟨g, 0, none⟩) L.length ck) (hw.1.cell (i := 1) rfl)) ⟨S_202, K_202, D_202, trivial⟩ ?_
        simp only [Act.put, List.setIfInBounds_toArray, List.set_cons_zero, List.set_cons_succ]
        refine h_take 12 (.int .i64 (k : Int)) rfl 20 rfl (by kernel_rfl) (by kernel_rfl) (by kernel_rfl) (by kernel_rfl) (fun _ _ _ h => h) (fun w' _ => by kernel_rfl) ⟨S_202, K_202, D_202, trivial⟩ ?_
        simp only [Act.put, List.setIfInBounds_toArray, List.set_cons_zero, List.set_cons_succ]
        refine h_take 13 (.pointer (some ⟨g, 0 + k * 65, none⟩)) rfl 21 rfl (by kernel_rfl) (by kernel_rfl) (by kernel_rfl) (by kernel_rfl) (fun _ _ _ h => h) (fun w' _ => Sl.run_op_index fRK _ _ rfl g 0 _ _ rfl .i64 _ rfl k rfl (hlt) w') ⟨S_202, K_202, D_202, trivial⟩ ?_
        simp only [Act.put, List.setIfInBounds_toArray, List.set_cons_zero, List.set_cons_succ]
        refine h_take 14 (.agg (kcs (keyN z)).toArray) rfl 22 rfl (by kernel_rfl) (by kernel_rfl) (by kernel_rfl) (by kernel_rfl) (fun _ _ _ h => h) (fun w' hw => run_op_load _ _ rfl g (0 + k * 65) rfl (kcs (keyN z)) hw.2.2.1 (Od.sz_rkey KZ.out)) ⟨S_202, K_202, D_202, trivial⟩ ?_
        simp only [Act.put, List.setIfInBounds_toArray, List.set_cons_zero, List.set_cons_succ]
        refine h_take 15 (.agg (kcs (keyN x)).toArray) rfl 23 rfl (by kernel_rfl) (by kernel_rfl) (by kernel_rfl) (by kernel_rfl) (fun _ _ _ h => h) (fun w' hw => run_op_load _ _ rfl K (0) rfl (kcs (keyN x)) (((Has.refl _)).range hw.2.1) ((Od.sz_rkey KK.out))) ⟨S_202, K_202, D_202, trivial⟩ ?_
        simp only [Act.put, List.setIfInBounds_toArray, List.set_cons_zero, List.set_cons_succ]
        refine h_one (i := 16) (by kernel_rfl) (o_call rfl 24 rfl (by kernel_rfl) (run_op_call 38 _ _ rfl #[.agg (kcs (keyN z)).toArray, .agg (kcs (keyN x)).toArray] (by simp only [List.map_toArray, List.map_cons, List.map_nil]; rfl) Tryz.func38 (by kernel_rfl) (by kernel_rfl) _) (CC.out _) ?_)
        rintro e y203 ⟨rfl, hB⟩
        have S_204 : Row y203 S 68 (ncs pl L.length cl (some ⟨g, 0, none⟩) L.length ck r pin) := S_202.old hB
        have OL_204 : Sl.Own kR y203 0 pl cl L := OL_202.below hB
        have OK_204 : Sl.Own kRK y203 0 (some ⟨g, 0, none⟩) ck (L.map keyN) := OK_202.below hB
        have X_204 : Row y203 X 55 (scs x) := X_202.old hB
        have K_204 : Row y203 K 84 (kcs (keyN x)) := K_202.old hB
        have D_204 : y203.rangeAt g (0 + k * 65) (kcs (keyN z)) := range_kk D_202 hB
        have Q_204 : Below wr.heap.size wr y203 := below_step Q_202 Q_202.size hB
        have bel_204 : Chg F w y203 := bel_202.old hB
        clear S_202 OL_202 OK_202 X_202 K_202 D_202 Q_202 bel_202 hB
        refine ⟨_, rfl, ⟨S_204, K_204, D_204, trivial⟩, ?_⟩
        simp only [Act.put, List.setIfInBounds_toArray, List.set_cons_zero, List.set_cons_succ]
        refine h_take 17 (.bool true) rfl 25 rfl (by kernel_rfl) (by kernel_rfl) (by kernel_rfl) (by kernel_rfl) (fun _ _ _ h => h) (fun w' _ => cmp_lss _ _ _ _ rfl .i64 c 0 rfl rfl true d2 w') ⟨S_204, K_204, D_204, trivial⟩ ?_
        simp only [Act.put, List.setIfInBounds_toArray, List.set_cons_zero, List.set_cons_succ]
        refine h_take 18 (.bool true) rfl 26 rfl (by kernel_rfl) (by kernel_rfl) (by kernel_rfl) (by kernel_rfl) (fun _ _ _ h => h) (fun w' _ => by kernel_rfl) ⟨S_204, K_204, D_204, trivial⟩ ?_
        simp only [Act.put, List.setIfInBounds_toArray, List.set_cons_zero, List.set_cons_succ]
        refine wpAnyH_done (by kernel_rfl) ?_ _
        go_wp2_with fail
        go_roundw
        case rel => exact ⟨⟨k + 1, by omega, by go_num, fun j y hj hy => by
          rcases Nat.lt_or_ge j k with q | q
          · exact HLW.out j y q hy
          · obtain rfl : j = k := by omega
            rw [HZ.out] at hy
            cases hy
            exact cmp_lt.1 (HCV.out ▸ HCZ.out)⟩, BEL.out.trans (Q_204.mono BEL.out.size)⟩
        case measure => simp [intOf]; omega
      · have d2 : decide (c < 0) = false := decide_eq_false hcz
        have HCZ := Lib.hid hcz
        clear hcz
        have hbr : Below wr.heap.size wr wr := Below.refl _ _
        go_wp2_with fail
        refine wp_region_held (S := fun w' => Row w' S 68 (ncs pl L.length cl (some ⟨g, 0, none⟩) L.length ck r pin) ∧ Row w' K 84 (kcs (keyN x)) ∧ w'.rangeAt g (0 + k * 65) (kcs (keyN z)) ∧ True) (by kernel_rfl) ?_
        change wpAnyH _ _ _ _ _ _ _ _ wr.drew
        have hd201 : Below wr.heap.size wr wr.drew := (Below.refl _ _).drew
        have S_202 : Row wr.drew S 68 (ncs pl L.length cl (some ⟨g, 0, none⟩) L.length ck r pin) := hSr.old hd201
        have OL_202 : Sl.Own kR wr.drew 0 pl cl L := hLr.below hd201
        have OK_202 : Sl.Own kRK wr.drew 0 (some ⟨g, 0, none⟩) ck (L.map keyN) := hKo.below hd201
        have X_202 : Row wr.drew X 55 (scs x) := hXr.old hd201
        have K_202 : Row wr.drew K 84 (kcs (keyN x)) := hKr.old hd201
        have D_202 : wr.drew.rangeAt g (0 + k * 65) (kcs (keyN z)) := range_kk hrz hd201
        have Q_202 : Below wr.heap.size wr wr.drew := below_step hbr hbr.size hd201
        have bel_202 : Chg F w wr.drew := belF.old hd201
        clear hSr hLr hKo hXr hKr hrz hbr belF hd201
        generalize wr.drew = yz201 at S_202 OL_202 OK_202 X_202 K_202 D_202 Q_202 bel_202 ⊢
        refine h_take 0 (.int .i64 (k : Int)) rfl 8 rfl (by kernel_rfl) (by kernel_rfl) (by kernel_rfl) (by kernel_rfl) (fun _ _ _ h => h) (fun w' _ => by kernel_rfl) ⟨S_202, K_202, D_202, trivial⟩ ?_
        simp only [Act.put, List.setIfInBounds_toArray, List.set_cons_zero, List.set_cons_succ]
        refine h_take 1 (.pointer (some ⟨S, 0, none⟩)) rfl 9 rfl (by kernel_rfl) (by kernel_rfl) (by kernel_rfl) (by kernel_rfl) (fun _ _ _ h => h) (fun w' _ => by kernel_rfl) ⟨S_202, K_202, D_202, trivial⟩ ?_
        simp only [Act.put, List.setIfInBounds_toArray, List.set_cons_zero, List.set_cons_succ]
        refine h_take 2 (.pointer (some ⟨S, 0, none⟩)) rfl 10 rfl (by kernel_rfl) (by kernel_rfl) (by kernel_rfl) (by kernel_rfl) (fun _ _ _ h => h) (fun w' _ => by kernel_rfl) ⟨S_202, K_202, D_202, trivial⟩ ?_
        simp only [Act.put, List.setIfInBounds_toArray, List.set_cons_zero, List.set_cons_succ]
        refine h_take 3 (.pointer (some ⟨S, 1, none⟩)) rfl 11 rfl (by kernel_rfl) (by kernel_rfl) (by kernel_rfl) (by kernel_rfl) (fun _ _ _ h => h) (fun w' _ => by kernel_rfl) ⟨S_202, K_202, D_202, trivial⟩ ?_
        simp only [Act.put, List.setIfInBounds_toArray, List.set_cons_zero, List.set_cons_succ]
        refine h_take 4 (.slice (some ⟨g, 0, none⟩) L.length ck) rfl 12 rfl (by kernel_rfl) (by kernel_rfl) (by kernel_rfl) (by kernel_rfl) (fun _ _ _ h => h) (fun w' hw => run_op_load1 _ _ rfl (.slice 84) fRK.und rfl ⟨S, 1, none⟩ rfl (.slice (some ⟨g, 0, none⟩) L.length ck) (hw.1.cell (i := 1) rfl)) ⟨S_202, K_202, D_202, trivial⟩ ?_
        simp only [Act.put, List.setIfInBounds_toArray, List.set_cons_zero, List.set_cons_succ]
        refine h_take 5 (.int .i64 (L.length : Int)) rfl 13 rfl (by kernel_rfl) (by kernel_rfl) (by kernel_rfl) (by kernel_rfl) (fun _ _ _ h => h) (fun w' _ => Sl.run_op_lenK _ _ _ rfl fRK.und _ _ _ rfl w') ⟨S_202, K_202, D_202, trivial⟩ ?_
        simp only [Act.put, List.setIfInBounds_toArray, List.set_cons_zero, List.set_cons_succ]
        refine h_take 6 (.bool true) rfl 14 rfl (by kernel_rfl) (by kernel_rfl) (by kernel_rfl) (by kernel_rfl) (fun _ _ _ h => h) (fun w' _ => cmp_lss _ _ _ _ rfl .i64 (k : Int) (L.length : Int) rfl rfl true d1 w') ⟨S_202, K_202, D_202, trivial⟩ ?_
        simp only [Act.put, List.setIfInBounds_toArray, List.set_cons_zero, List.set_cons_succ]
        refine h_take 7 (.bool true) rfl 15 rfl (by kernel_rfl) (by kernel_rfl) (by kernel_rfl) (by kernel_rfl) (fun _ _ _ h => h) (fun w' _ => by kernel_rfl) ⟨S_202, K_202, D_202, trivial⟩ ?_
        simp only [Act.put, List.setIfInBounds_toArray, List.set_cons_zero, List.set_cons_succ]
        refine h_take 8 (.pointer (some ⟨S, 0, none⟩)) rfl 16 rfl (by kernel_rfl) (by kernel_rfl) (by kernel_rfl) (by kernel_rfl) (fun _ _ _ h => h) (fun w' _ => by kernel_rfl) ⟨S_202, K_202, D_202, trivial⟩ ?_
        simp only [Act.put, List.setIfInBounds_toArray, List.set_cons_zero, List.set_cons_succ]
        refine h_take 9 (.pointer (some ⟨S, 0, none⟩)) rfl 17 rfl (by kernel_rfl) (by kernel_rfl) (by kernel_rfl) (by kernel_rfl) (fun _ _ _ h => h) (fun w' _ => by kernel_rfl) ⟨S_202, K_202, D_202, trivial⟩ ?_
        simp only [Act.put, List.setIfInBounds_toArray, List.set_cons_zero, List.set_cons_succ]
        refine h_take 10 (.pointer (some ⟨S, 1, none⟩)) rfl 18 rfl (by kernel_rfl) (by kernel_rfl) (by kernel_rfl) (by kernel_rfl) (fun _ _ _ h => h) (fun w' _ => by kernel_rfl) ⟨S_202, K_202, D_202, trivial⟩ ?_
        simp only [Act.put, List.setIfInBounds_toArray, List.set_cons_zero, List.set_cons_succ]
        refine h_take 11 (.slice (some ⟨g, 0, none⟩) L.length ck) rfl 19 rfl (by kernel_rfl) (by kernel_rfl) (by kernel_rfl) (by kernel_rfl) (fun _ _ _ h => h) (fun w' hw => run_op_load1 _ _ rfl (.slice 84) fRK.und rfl ⟨S, 1, none⟩ rfl (.slice (some ⟨g, 0, none⟩) L.length ck) (hw.1.cell (i := 1) rfl)) ⟨S_202, K_202, D_202, trivial⟩ ?_
        simp only [Act.put, List.setIfInBounds_toArray, List.set_cons_zero, List.set_cons_succ]
        refine h_take 12 (.int .i64 (k : Int)) rfl 20 rfl (by kernel_rfl) (by kernel_rfl) (by kernel_rfl) (by kernel_rfl) (fun _ _ _ h => h) (fun w' _ => by kernel_rfl) ⟨S_202, K_202, D_202, trivial⟩ ?_
        simp only [Act.put, List.setIfInBounds_toArray, List.set_cons_zero, List.set_cons_succ]
        refine h_take 13 (.pointer (some ⟨g, 0 + k * 65, none⟩)) rfl 21 rfl (by kernel_rfl) (by kernel_rfl) (by kernel_rfl) (by kernel_rfl) (fun _ _ _ h => h) (fun w' _ => Sl.run_op_index fRK _ _ rfl g 0 _ _ rfl .i64 _ rfl k rfl (hlt) w') ⟨S_202, K_202, D_202, trivial⟩ ?_
        simp only [Act.put, List.setIfInBounds_toArray, List.set_cons_zero, List.set_cons_succ]
        refine h_take 14 (.agg (kcs (keyN z)).toArray) rfl 22 rfl (by kernel_rfl) (by kernel_rfl) (by kernel_rfl) (by kernel_rfl) (fun _ _ _ h => h) (fun w' hw => run_op_load _ _ rfl g (0 + k * 65) rfl (kcs (keyN z)) hw.2.2.1 (Od.sz_rkey KZ.out)) ⟨S_202, K_202, D_202, trivial⟩ ?_
        simp only [Act.put, List.setIfInBounds_toArray, List.set_cons_zero, List.set_cons_succ]
        refine h_take 15 (.agg (kcs (keyN x)).toArray) rfl 23 rfl (by kernel_rfl) (by kernel_rfl) (by kernel_rfl) (by kernel_rfl) (fun _ _ _ h => h) (fun w' hw => run_op_load _ _ rfl K (0) rfl (kcs (keyN x)) (((Has.refl _)).range hw.2.1) ((Od.sz_rkey KK.out))) ⟨S_202, K_202, D_202, trivial⟩ ?_
        simp only [Act.put, List.setIfInBounds_toArray, List.set_cons_zero, List.set_cons_succ]
        refine h_one (i := 16) (by kernel_rfl) (o_call rfl 24 rfl (by kernel_rfl) (run_op_call 38 _ _ rfl #[.agg (kcs (keyN z)).toArray, .agg (kcs (keyN x)).toArray] (by simp only [List.map_toArray, List.map_cons, List.map_nil]; rfl) Tryz.func38 (by kernel_rfl) (by kernel_rfl) _) (CC.out _) ?_)
        rintro e y203 ⟨rfl, hB⟩
        have S_204 : Row y203 S 68 (ncs pl L.length cl (some ⟨g, 0, none⟩) L.length ck r pin) := S_202.old hB
        have OL_204 : Sl.Own kR y203 0 pl cl L := OL_202.below hB
        have OK_204 : Sl.Own kRK y203 0 (some ⟨g, 0, none⟩) ck (L.map keyN) := OK_202.below hB
        have X_204 : Row y203 X 55 (scs x) := X_202.old hB
        have K_204 : Row y203 K 84 (kcs (keyN x)) := K_202.old hB
        have D_204 : y203.rangeAt g (0 + k * 65) (kcs (keyN z)) := range_kk D_202 hB
        have Q_204 : Below wr.heap.size wr y203 := below_step Q_202 Q_202.size hB
        have bel_204 : Chg F w y203 := bel_202.old hB
        clear S_202 OL_202 OK_202 X_202 K_202 D_202 Q_202 bel_202 hB
        refine ⟨_, rfl, ⟨S_204, K_204, D_204, trivial⟩, ?_⟩
        simp only [Act.put, List.setIfInBounds_toArray, List.set_cons_zero, List.set_cons_succ]
        refine h_take 17 (.bool false) rfl 25 rfl (by kernel_rfl) (by kernel_rfl) (by kernel_rfl) (by kernel_rfl) (fun _ _ _ h => h) (fun w' _ => cmp_lss _ _ _ _ rfl .i64 c 0 rfl rfl false d2 w') ⟨S_204, K_204, D_204, trivial⟩ ?_
        simp only [Act.put, List.setIfInBounds_toArray, List.set_cons_zero, List.set_cons_succ]
        refine h_take 18 (.bool false) rfl 26 rfl (by kernel_rfl) (by kernel_rfl) (by kernel_rfl) (by kernel_rfl) (fun _ _ _ h => h) (fun w' _ => by kernel_rfl) ⟨S_204, K_204, D_204, trivial⟩ ?_
        simp only [Act.put, List.setIfInBounds_toArray, List.set_cons_zero, List.set_cons_succ]
        refine wpAnyH_done (by kernel_rfl) ?_ _
        go_wp2_with fail
        have HIN : Hid (L.take k ++ [x] ++ L.drop k = ins rvK x L) := Lib.hid (insK_at hk HLW.out (fun q hq => by rw [HZ.out] at hq; cases hq; exact fun e => by have h1 := cmp_lt.2 e; rw [← HCV.out] at h1; have h2 := HCZ.out; omega)).symm
        clear D_204
        clear Q_204
        have IC : Hid (k ≤ cl) := Lib.hid (by have := OL_204.cap; omega); have KCM : Hid (L.length ≤ cl) := Lib.hid OL_204.cap
        have IK : Hid (k ≤ ck) := Lib.hid (by have := OK_204.cap; rw [List.length_map] at this; omega); have KKM : Hid ((L.map keyN).length ≤ ck) := Lib.hid OK_204.cap
        have TKL : Hid (k = (L.take k).length) := Lib.hid (by rw [List.length_take]; omega); have DKL : Hid (L.length - k = (L.drop k).length) := Lib.hid (by rw [List.length_drop])
        have TDL : Hid ((L.take k).length + 1 + (L.drop k).length ≤ 1000000) := Lib.hid (by rw [List.length_take, List.length_drop]; omega)
        have TKK : Hid (k = ((L.map keyN).take k).length) := Lib.hid (by rw [List.length_take, List.length_map]; omega); have DKK : Hid (L.length - k = ((L.map keyN).drop k).length) := Lib.hid (by rw [List.length_drop, List.length_map])
        have TDK : Hid (((L.map keyN).take k).length + 1 + ((L.map keyN).drop k).length ≤ 1000000) := Lib.hid (by rw [List.length_take, List.length_drop, List.length_map]; omega)
        have HINK : Hid ((L.map keyN).take k ++ [keyN x] ++ (L.map keyN).drop k = (ins rvK x L).map keyN) := Lib.hid (by rw [← HIN.out, List.map_append, List.map_append, List.map_take, List.map_drop]; rfl)
        have HNL : Hid ((ins rvK x L).length = L.length + 1) := Lib.hid (ins_len x L)
        have HNK : Hid (((ins rvK x L).map keyN).length = L.length + 1) := Lib.hid (by rw [List.length_map, ins_len])
        clear hL
        refine wp_region_last (S := fun w' => Row w' S 68 (ncs pl L.length cl (some ⟨g, 0, none⟩) L.length ck r pin) ∧ Row w' X 55 (scs x) ∧ True) 21 21 rfl (by kernel_rfl) (by kernel_rfl) ?_
        change wpAnyH _ _ _ _ _ _ _ _ y203.drew
        have hd205 : Below y203.heap.size y203 y203.drew := (Below.refl _ _).drew
        have S_206 : Row y203.drew S 68 (ncs pl L.length cl (some ⟨g, 0, none⟩) L.length ck r pin) := S_204.old hd205
        have OL_206 : Sl.Own kR y203.drew 0 pl cl L := OL_204.below hd205
        have OK_206 : Sl.Own kRK y203.drew 0 (some ⟨g, 0, none⟩) ck (L.map keyN) := OK_204.below hd205
        have X_206 : Row y203.drew X 55 (scs x) := X_204.old hd205
        have K_206 : Row y203.drew K 84 (kcs (keyN x)) := K_204.old hd205
        have bel_206 : Chg F w y203.drew := bel_204.old hd205
        clear S_204 OL_204 OK_204 X_204 K_204 bel_204 hd205
        generalize y203.drew = yz205 at S_206 OL_206 OK_206 X_206 K_206 bel_206 ⊢
        have hws0 := bel_206.size
        refine h_take 0 (.pointer (some ⟨S, 0, none⟩)) rfl 29 rfl (by kernel_rfl) (by kernel_rfl) (by kernel_rfl) (by kernel_rfl) (fun _ _ _ h => h) (fun w' _ => by kernel_rfl) ⟨S_206, X_206, trivial⟩ ?_
        simp only [Act.put, List.setIfInBounds_toArray, List.set_cons_zero, List.set_cons_succ]
        refine h_take 2 (.pointer (some ⟨S, 0, none⟩)) rfl 31 rfl (by kernel_rfl) (by kernel_rfl) (by kernel_rfl) (by kernel_rfl) (fun _ _ _ h => h) (fun w' _ => by kernel_rfl) ⟨S_206, X_206, trivial⟩ ?_
        simp only [Act.put, List.setIfInBounds_toArray, List.set_cons_zero, List.set_cons_succ]
        refine h_take 3 (.pointer (some ⟨S, 0, none⟩)) rfl 32 rfl (by kernel_rfl) (by kernel_rfl) (by kernel_rfl) (by kernel_rfl) (fun _ _ _ h => h) (fun w' _ => by kernel_rfl) ⟨S_206, X_206, trivial⟩ ?_
        simp only [Act.put, List.setIfInBounds_toArray, List.set_cons_zero, List.set_cons_succ]
        refine h_take 4 (.pointer (some ⟨S, 0, none⟩)) rfl 33 rfl (by kernel_rfl) (by kernel_rfl) (by kernel_rfl) (by kernel_rfl) (fun _ _ _ h => h) (fun w' _ => by kernel_rfl) ⟨S_206, X_206, trivial⟩ ?_
        simp only [Act.put, List.setIfInBounds_toArray, List.set_cons_zero, List.set_cons_succ]
        refine h_take 5 (.slice pl L.length cl) rfl 34 rfl (by kernel_rfl) (by kernel_rfl) (by kernel_rfl) (by kernel_rfl) (fun _ _ _ h => h) (fun w' hw => run_op_load1 _ _ rfl (.slice 55) fR.und rfl ⟨S, 0, none⟩ rfl (.slice pl L.length cl) (hw.1.cell (i := 0) rfl)) ⟨S_206, X_206, trivial⟩ ?_
        simp only [Act.put, List.setIfInBounds_toArray, List.set_cons_zero, List.set_cons_succ]
        refine h_take 6 (.int .i64 (k : Int)) rfl 35 rfl (by kernel_rfl) (by kernel_rfl) (by kernel_rfl) (by kernel_rfl) (fun _ _ _ h => h) (fun w' _ => by kernel_rfl) ⟨S_206, X_206, trivial⟩ ?_
        simp only [Act.put, List.setIfInBounds_toArray, List.set_cons_zero, List.set_cons_succ]
        refine h_take 7 (.slice pl k cl) rfl 36 rfl (by kernel_rfl) (by kernel_rfl) (by kernel_rfl) (by kernel_rfl) (fun _ _ _ h => h) (fun w' _ => Sl.run_op_head fR _ _ rfl _ _ _ rfl .i64 _ rfl k rfl IC.out w') ⟨S_206, X_206, trivial⟩ ?_
        simp only [Act.put, List.setIfInBounds_toArray, List.set_cons_zero, List.set_cons_succ]
        refine h_take 9 (.agg (scs x).toArray) rfl 38 rfl (by kernel_rfl) (by kernel_rfl) (by kernel_rfl) (by kernel_rfl) (fun _ _ _ h => h) (fun w' hw => run_op_load _ _ rfl X (0) rfl (scs x) (((Has.refl _)).range hw.2.1) ((Sa.sz_rsta KX.out))) ⟨S_206, X_206, trivial⟩ ?_
        simp only [Act.put, List.setIfInBounds_toArray, List.set_cons_zero, List.set_cons_succ]
        refine h_take 12 (.pointer (some ⟨S, 0, none⟩)) rfl 41 rfl (by kernel_rfl) (by kernel_rfl) (by kernel_rfl) (by kernel_rfl) (fun _ _ _ h => h) (fun w' _ => by kernel_rfl) ⟨S_206, X_206, trivial⟩ ?_
        simp only [Act.put, List.setIfInBounds_toArray, List.set_cons_zero, List.set_cons_succ]
        refine h_take 13 (.pointer (some ⟨S, 0, none⟩)) rfl 42 rfl (by kernel_rfl) (by kernel_rfl) (by kernel_rfl) (by kernel_rfl) (fun _ _ _ h => h) (fun w' _ => by kernel_rfl) ⟨S_206, X_206, trivial⟩ ?_
        simp only [Act.put, List.setIfInBounds_toArray, List.set_cons_zero, List.set_cons_succ]
        refine h_take 14 (.pointer (some ⟨S, 0, none⟩)) rfl 43 rfl (by kernel_rfl) (by kernel_rfl) (by kernel_rfl) (by kernel_rfl) (fun _ _ _ h => h) (fun w' _ => by kernel_rfl) ⟨S_206, X_206, trivial⟩ ?_
        simp only [Act.put, List.setIfInBounds_toArray, List.set_cons_zero, List.set_cons_succ]
        refine h_take 15 (.slice pl L.length cl) rfl 44 rfl (by kernel_rfl) (by kernel_rfl) (by kernel_rfl) (by kernel_rfl) (fun _ _ _ h => h) (fun w' hw => run_op_load1 _ _ rfl (.slice 55) fR.und rfl ⟨S, 0, none⟩ rfl (.slice pl L.length cl) (hw.1.cell (i := 0) rfl)) ⟨S_206, X_206, trivial⟩ ?_
        simp only [Act.put, List.setIfInBounds_toArray, List.set_cons_zero, List.set_cons_succ]
        refine h_take 16 (.int .i64 (k : Int)) rfl 45 rfl (by kernel_rfl) (by kernel_rfl) (by kernel_rfl) (by kernel_rfl) (fun _ _ _ h => h) (fun w' _ => by kernel_rfl) ⟨S_206, X_206, trivial⟩ ?_
        simp only [Act.put, List.setIfInBounds_toArray, List.set_cons_zero, List.set_cons_succ]
        refine h_take 17 (.slice (Sl.onN pl k 363 cl) (L.length - k) (cl - k)) rfl 46 rfl (by kernel_rfl) (by kernel_rfl) (by kernel_rfl) (by kernel_rfl) (fun _ _ _ h => h) (fun w' _ => Sl.run_op_tail fR _ _ rfl _ _ _ rfl .i64 _ rfl k rfl hk w') ⟨S_206, X_206, trivial⟩ ?_
        simp only [Act.put, List.setIfInBounds_toArray, List.set_cons_zero, List.set_cons_succ]
        refine Sl.h_cat3 (i := 1) (j := 8) (m := 10) (k := 11) (n := 18) rfl rfl rfl rfl rfl (by kernel_rfl) (by kernel_rfl) (by kernel_rfl) (by kernel_rfl) (by kernel_rfl) (by kernel_rfl) (by kernel_rfl) fR 30 37 39 40 47 rfl rfl rfl rfl rfl rfl rfl rfl rfl rfl (by decide) (by decide) (by decide) (by decide) _ rfl rfl (x) (KX.out) _ rfl _ _ _ _ _ _ rfl rfl rfl (pl) (Sl.onN pl k 363 cl) (k) (L.length - k) (cl) (cl - k) (L.take k) (L.drop k) (TKL.out) (DKL.out) ((OL_206.at fR).take k) ((OL_206.at fR).tail k KCM.out) (TDL.out) rfl (fun _ => rfl) (fun _ _ => rfl) (fun _ => rfl) (fun _ => rfl) (fun _ _ => rfl) (fun _ _ => rfl) (fun _ _ _ => rfl) (fun _ _ _ => rfl) (fun _ _ _ _ => rfl) (fun _ _ _ _ => rfl) (fun w' hB => ⟨S_206.old hB, X_206.old hB, trivial⟩) ?_
        intro _ _ _ _ p' c' y2 hO2 hB
        have S_207 : Row y2 S 68 (ncs pl L.length cl (some ⟨g, 0, none⟩) L.length ck r pin) := S_206.old hB
        have OL_207 : Sl.Own kR y2 0 pl cl L := OL_206.below hB
        have OK_207 : Sl.Own kRK y2 0 (some ⟨g, 0, none⟩) ck (L.map keyN) := OK_206.below hB
        have X_207 : Row y2 X 55 (scs x) := X_206.old hB
        have K_207 : Row y2 K 84 (kcs (keyN x)) := K_206.old hB
        have bel_207 : Chg F w y2 := bel_206.old hB
        clear S_206 OL_206 OK_206 X_206 K_206 bel_206 hB
        simp only [Act.put, List.setIfInBounds_toArray, List.set_cons_zero, List.set_cons_succ]
        refine h_take 19 (.pointer (some ⟨S, 0, none⟩)) rfl 48 rfl (by kernel_rfl) (by kernel_rfl) (by kernel_rfl) (by kernel_rfl) (fun _ _ _ h => h) (fun w' _ => by kernel_rfl) ⟨S_207, X_207, trivial⟩ ?_
        simp only [Act.put, List.setIfInBounds_toArray, List.set_cons_zero, List.set_cons_succ]
        refine h_take 20 (.pointer (some ⟨S, 0, none⟩)) rfl 49 rfl (by kernel_rfl) (by kernel_rfl) (by kernel_rfl) (by kernel_rfl) (fun _ _ _ h => h) (fun w' _ => by kernel_rfl) ⟨S_207, X_207, trivial⟩ ?_
        simp only [Act.put, List.setIfInBounds_toArray, List.set_cons_zero, List.set_cons_succ]
        rw [HIN.out] at hO2 ⊢
        rw [HNL.out]
        refine wpAnyH_done (by kernel_rfl) ?_ _
        refine last_normal ?_
        refine o_skip rfl rfl (by kernel_rfl) (run_op_storeV _ _ _ rfl S (0) rfl (.slice p' (L.length + 1) c') rfl (one_sl _ _ _) sz_slR _ _ S_207 (lt_ncs 0 (by decide) _ _ _ _ _ _ _ _)) ?_
        have rq := row_setRow S_207 ((ncs pl L.length cl (some ⟨g, 0, none⟩) L.length ck r pin).set (0) (.slice p' (L.length + 1) c'))
        have oq := Only.setRow S y2 ((ncs pl L.length cl (some ⟨g, 0, none⟩) L.length ck r pin).set (0) (.slice p' (L.length + 1) c')).toArray
        generalize y2.setRow S ((ncs pl L.length cl (some ⟨g, 0, none⟩) L.length ck r pin).set (0) (.slice p' (L.length + 1) c')).toArray = y3 at rq oq ⊢
        have hSy3 : Row y3 S 68 (ncs p' (L.length + 1) c' (some ⟨g, 0, none⟩) L.length ck r pin) := rq
        have hfr0 : From (fun k => bk p' = some k) w.heap.size := fun j e => Nat.le_trans hws0 (hO2.ge e).1
        have hM0 := hO2.low (Nat.zero_le _)
        clear rq hO2
        clear OL_207
        have S_208 : Row y3 S 68 (ncs p' (L.length + 1) c' (some ⟨g, 0, none⟩) L.length ck r pin) := hSy3
        have OK_208 : Sl.Own kRK y3 0 (some ⟨g, 0, none⟩) ck (L.map keyN) := OK_207.only oq (OK_207.ne S_207 (by decide))
        have X_208 : Row y3 X 55 (scs x) := X_207.only oq (X_207.ne_type S_207 (by decide))
        have K_208 : Row y3 K 84 (kcs (keyN x)) := K_207.only oq (K_207.ne_type S_207 (by decide))
        have OM_208 : Sl.Own kR y3 0 p' c' (ins rvK x L) := hM0.only oq (hM0.ne S_207 (by decide))
        have bel_208 : Chg F w y3 := bel_207.only oq (FS.out)
        clear S_207 OK_207 X_207 K_207 hM0 bel_207 oq
        go_wp2_with fail
        refine wp_region_last (S := fun w' => Row w' S 68 (ncs p' (L.length + 1) c' (some ⟨g, 0, none⟩) L.length ck r pin) ∧ Row w' K 84 (kcs (keyN x)) ∧ True) 21 21 rfl (by kernel_rfl) (by kernel_rfl) ?_
        change wpAnyH _ _ _ _ _ _ _ _ y3.drew
        have hd209 : Below y3.heap.size y3 y3.drew := (Below.refl _ _).drew
        have S_210 : Row y3.drew S 68 (ncs p' (L.length + 1) c' (some ⟨g, 0, none⟩) L.length ck r pin) := S_208.old hd209
        have OK_210 : Sl.Own kRK y3.drew 0 (some ⟨g, 0, none⟩) ck (L.map keyN) := OK_208.below hd209
        have X_210 : Row y3.drew X 55 (scs x) := X_208.old hd209
        have K_210 : Row y3.drew K 84 (kcs (keyN x)) := K_208.old hd209
        have OM_210 : Sl.Own kR y3.drew 0 p' c' (ins rvK x L) := OM_208.below hd209
        have bel_210 : Chg F w y3.drew := bel_208.old hd209
        clear S_208 OK_208 X_208 K_208 OM_208 bel_208 hd209
        generalize y3.drew = yz209 at S_210 OK_210 X_210 K_210 OM_210 bel_210 ⊢
        have hws1 := bel_210.size
        refine h_take 0 (.pointer (some ⟨S, 0, none⟩)) rfl 50 rfl (by kernel_rfl) (by kernel_rfl) (by kernel_rfl) (by kernel_rfl) (fun _ _ _ h => h) (fun w' _ => by kernel_rfl) ⟨S_210, K_210, trivial⟩ ?_
        simp only [Act.put, List.setIfInBounds_toArray, List.set_cons_zero, List.set_cons_succ]
        refine h_take 2 (.pointer (some ⟨S, 0, none⟩)) rfl 52 rfl (by kernel_rfl) (by kernel_rfl) (by kernel_rfl) (by kernel_rfl) (fun _ _ _ h => h) (fun w' _ => by kernel_rfl) ⟨S_210, K_210, trivial⟩ ?_
        simp only [Act.put, List.setIfInBounds_toArray, List.set_cons_zero, List.set_cons_succ]
        refine h_take 3 (.pointer (some ⟨S, 0, none⟩)) rfl 53 rfl (by kernel_rfl) (by kernel_rfl) (by kernel_rfl) (by kernel_rfl) (fun _ _ _ h => h) (fun w' _ => by kernel_rfl) ⟨S_210, K_210, trivial⟩ ?_
        simp only [Act.put, List.setIfInBounds_toArray, List.set_cons_zero, List.set_cons_succ]
        refine h_take 4 (.pointer (some ⟨S, 1, none⟩)) rfl 54 rfl (by kernel_rfl) (by kernel_rfl) (by kernel_rfl) (by kernel_rfl) (fun _ _ _ h => h) (fun w' _ => by kernel_rfl) ⟨S_210, K_210, trivial⟩ ?_
        simp only [Act.put, List.setIfInBounds_toArray, List.set_cons_zero, List.set_cons_succ]
        refine h_take 5 (.slice (some ⟨g, 0, none⟩) L.length ck) rfl 55 rfl (by kernel_rfl) (by kernel_rfl) (by kernel_rfl) (by kernel_rfl) (fun _ _ _ h => h) (fun w' hw => run_op_load1 _ _ rfl (.slice 84) fRK.und rfl ⟨S, 1, none⟩ rfl (.slice (some ⟨g, 0, none⟩) L.length ck) (hw.1.cell (i := 1) rfl)) ⟨S_210, K_210, trivial⟩ ?_
        simp only [Act.put, List.setIfInBounds_toArray, List.set_cons_zero, List.set_cons_succ]
        refine h_take 6 (.int .i64 (k : Int)) rfl 56 rfl (by kernel_rfl) (by kernel_rfl) (by kernel_rfl) (by kernel_rfl) (fun _ _ _ h => h) (fun w' _ => by kernel_rfl) ⟨S_210, K_210, trivial⟩ ?_
        simp only [Act.put, List.setIfInBounds_toArray, List.set_cons_zero, List.set_cons_succ]
        refine h_take 7 (.slice (some ⟨g, 0, none⟩) k ck) rfl 57 rfl (by kernel_rfl) (by kernel_rfl) (by kernel_rfl) (by kernel_rfl) (fun _ _ _ h => h) (fun w' _ => Sl.run_op_head fRK _ _ rfl _ _ _ rfl .i64 _ rfl k rfl IK.out w') ⟨S_210, K_210, trivial⟩ ?_
        simp only [Act.put, List.setIfInBounds_toArray, List.set_cons_zero, List.set_cons_succ]
        refine h_take 9 (.agg (kcs (keyN x)).toArray) rfl 59 rfl (by kernel_rfl) (by kernel_rfl) (by kernel_rfl) (by kernel_rfl) (fun _ _ _ h => h) (fun w' hw => run_op_load _ _ rfl K (0) rfl (kcs (keyN x)) (((Has.refl _)).range hw.2.1) ((Od.sz_rkey KK.out))) ⟨S_210, K_210, trivial⟩ ?_
        simp only [Act.put, List.setIfInBounds_toArray, List.set_cons_zero, List.set_cons_succ]
        refine h_take 12 (.pointer (some ⟨S, 0, none⟩)) rfl 62 rfl (by kernel_rfl) (by kernel_rfl) (by kernel_rfl) (by kernel_rfl) (fun _ _ _ h => h) (fun w' _ => by kernel_rfl) ⟨S_210, K_210, trivial⟩ ?_
        simp only [Act.put, List.setIfInBounds_toArray, List.set_cons_zero, List.set_cons_succ]
        refine h_take 13 (.pointer (some ⟨S, 0, none⟩)) rfl 63 rfl (by kernel_rfl) (by kernel_rfl) (by kernel_rfl) (by kernel_rfl) (fun _ _ _ h => h) (fun w' _ => by kernel_rfl) ⟨S_210, K_210, trivial⟩ ?_
        simp only [Act.put, List.setIfInBounds_toArray, List.set_cons_zero, List.set_cons_succ]
        refine h_take 14 (.pointer (some ⟨S, 1, none⟩)) rfl 64 rfl (by kernel_rfl) (by kernel_rfl) (by kernel_rfl) (by kernel_rfl) (fun _ _ _ h => h) (fun w' _ => by kernel_rfl) ⟨S_210, K_210, trivial⟩ ?_
        simp only [Act.put, List.setIfInBounds_toArray, List.set_cons_zero, List.set_cons_succ]
        refine h_take 15 (.slice (some ⟨g, 0, none⟩) L.length ck) rfl 65 rfl (by kernel_rfl) (by kernel_rfl) (by kernel_rfl) (by kernel_rfl) (fun _ _ _ h => h) (fun w' hw => run_op_load1 _ _ rfl (.slice 84) fRK.und rfl ⟨S, 1, none⟩ rfl (.slice (some ⟨g, 0, none⟩) L.length ck) (hw.1.cell (i := 1) rfl)) ⟨S_210, K_210, trivial⟩ ?_
        simp only [Act.put, List.setIfInBounds_toArray, List.set_cons_zero, List.set_cons_succ]
        refine h_take 16 (.int .i64 (k : Int)) rfl 66 rfl (by kernel_rfl) (by kernel_rfl) (by kernel_rfl) (by kernel_rfl) (fun _ _ _ h => h) (fun w' _ => by kernel_rfl) ⟨S_210, K_210, trivial⟩ ?_
        simp only [Act.put, List.setIfInBounds_toArray, List.set_cons_zero, List.set_cons_succ]
        refine h_take 17 (.slice (Sl.onN (some ⟨g, 0, none⟩) k 65 ck) (L.length - k) (ck - k)) rfl 67 rfl (by kernel_rfl) (by kernel_rfl) (by kernel_rfl) (by kernel_rfl) (fun _ _ _ h => h) (fun w' _ => Sl.run_op_tail fRK _ _ rfl _ _ _ rfl .i64 _ rfl k rfl hk w') ⟨S_210, K_210, trivial⟩ ?_
        simp only [Act.put, List.setIfInBounds_toArray, List.set_cons_zero, List.set_cons_succ]
        refine Sl.h_cat3 (i := 1) (j := 8) (m := 10) (k := 11) (n := 18) rfl rfl rfl rfl rfl (by kernel_rfl) (by kernel_rfl) (by kernel_rfl) (by kernel_rfl) (by kernel_rfl) (by kernel_rfl) (by kernel_rfl) fRK 51 58 60 61 68 rfl rfl rfl rfl rfl rfl rfl rfl rfl rfl (by decide) (by decide) (by decide) (by decide) _ rfl rfl (keyN x) (KK.out) _ rfl _ _ _ _ _ _ rfl rfl rfl ((some ⟨g, 0, none⟩)) (Sl.onN (some ⟨g, 0, none⟩) k 65 ck) (k) (L.length - k) (ck) (ck - k) ((L.map keyN).take k) ((L.map keyN).drop k) (TKK.out) (DKK.out) ((OK_210.at fRK).take k) ((OK_210.at fRK).tail k KKM.out) (TDK.out) rfl (fun _ => rfl) (fun _ _ => rfl) (fun _ => rfl) (fun _ => rfl) (fun _ _ => rfl) (fun _ _ => rfl) (fun _ _ _ => rfl) (fun _ _ _ => rfl) (fun _ _ _ _ => rfl) (fun _ _ _ _ => rfl) (fun w' hB => ⟨S_210.old hB, K_210.old hB, trivial⟩) ?_
        intro _ _ _ _ q' d' y4 hO4 hB
        have S_211 : Row y4 S 68 (ncs p' (L.length + 1) c' (some ⟨g, 0, none⟩) L.length ck r pin) := S_210.old hB
        have OK_211 : Sl.Own kRK y4 0 (some ⟨g, 0, none⟩) ck (L.map keyN) := OK_210.below hB
        have X_211 : Row y4 X 55 (scs x) := X_210.old hB
        have K_211 : Row y4 K 84 (kcs (keyN x)) := K_210.old hB
        have OM_211 : Sl.Own kR y4 0 p' c' (ins rvK x L) := OM_210.below hB
        have bel_211 : Chg F w y4 := bel_210.old hB
        clear S_210 OK_210 X_210 K_210 OM_210 bel_210 hB
        simp only [Act.put, List.setIfInBounds_toArray, List.set_cons_zero, List.set_cons_succ]
        refine h_take 19 (.pointer (some ⟨S, 0, none⟩)) rfl 69 rfl (by kernel_rfl) (by kernel_rfl) (by kernel_rfl) (by kernel_rfl) (fun _ _ _ h => h) (fun w' _ => by kernel_rfl) ⟨S_211, K_211, trivial⟩ ?_
        simp only [Act.put, List.setIfInBounds_toArray, List.set_cons_zero, List.set_cons_succ]
        refine h_take 20 (.pointer (some ⟨S, 1, none⟩)) rfl 70 rfl (by kernel_rfl) (by kernel_rfl) (by kernel_rfl) (by kernel_rfl) (fun _ _ _ h => h) (fun w' _ => by kernel_rfl) ⟨S_211, K_211, trivial⟩ ?_
        simp only [Act.put, List.setIfInBounds_toArray, List.set_cons_zero, List.set_cons_succ]
        rw [HINK.out] at hO4 ⊢
        rw [HNK.out]
        refine wpAnyH_done (by kernel_rfl) ?_ _
        refine last_normal ?_
        refine o_skip rfl rfl (by kernel_rfl) (run_op_storeV _ _ _ rfl S (1) rfl (.slice q' (L.length + 1) d') rfl (one_sl _ _ _) sz_slRK _ _ S_211 (lt_ncs 1 (by decide) _ _ _ _ _ _ _ _)) ?_
        have rq := row_setRow S_211 ((ncs p' (L.length + 1) c' (some ⟨g, 0, none⟩) L.length ck r pin).set (1) (.slice q' (L.length + 1) d'))
        have oq := Only.setRow S y4 ((ncs p' (L.length + 1) c' (some ⟨g, 0, none⟩) L.length ck r pin).set (1) (.slice q' (L.length + 1) d')).toArray
        generalize y4.setRow S ((ncs p' (L.length + 1) c' (some ⟨g, 0, none⟩) L.length ck r pin).set (1) (.slice q' (L.length + 1) d')).toArray = y5 at rq oq ⊢
        have hSy5 : Row y5 S 68 (ncs p' (L.length + 1) c' q' (L.length + 1) d' r pin) := rq
        have hfr1 : From (fun k => bk q' = some k) w.heap.size := fun j e => Nat.le_trans hws1 (hO4.ge e).1
        have hM1 := hO4.low (Nat.zero_le _)
        clear rq hO4
        clear OK_211
        have S_212 : Row y5 S 68 (ncs p' (L.length + 1) c' q' (L.length + 1) d' r pin) := hSy5
        have X_212 : Row y5 X 55 (scs x) := X_211.only oq (X_211.ne_type S_211 (by decide))
        have K_212 : Row y5 K 84 (kcs (keyN x)) := K_211.only oq (K_211.ne_type S_211 (by decide))
        have OM_212 : Sl.Own kR y5 0 p' c' (ins rvK x L) := OM_211.only oq (OM_211.ne S_211 (by decide))
        have ON_212 : Sl.Own kRK y5 0 q' d' ((ins rvK x L).map keyN) := hM1.only oq (hM1.ne S_211 (by decide))
        have bel_212 : Chg F w y5 := bel_211.only oq (FS.out)
        clear S_211 X_211 K_211 OM_211 hM1 bel_211 oq
        go_wp2_with fail
        go_end0
        exact ⟨rfl, rs_done (HNL.out.symm ▸ S_212) OM_212 ON_212 hfr0 hfr1 PO.out HLI.out bel_212.size FS.out, bel_212⟩
    · have d1 : decide ((k : Int) < (L.length : Int)) = false := decide_eq_false (by omega)
      have HIN : Hid (L.take k ++ [x] ++ L.drop k = ins rvK x L) := Lib.hid (insK_at hk hlow (fun q hq => by have := (List.getElem?_eq_some_iff.1 hq).1; omega)).symm
      clear hlow bel hlt
      go_wp2_with fail
      refine wp_region_held (S := fun w' => Row w' S 68 (ncs pl L.length cl pk L.length ck r pin) ∧ True) (by kernel_rfl) ?_
      change wpAnyH _ _ _ _ _ _ _ _ wr.drew
      have hd501 : Below wr.heap.size wr wr.drew := (Below.refl _ _).drew
      have S_502 : Row wr.drew S 68 (ncs pl L.length cl pk L.length ck r pin) := hSr.old hd501
      have OL_502 : Sl.Own kR wr.drew 0 pl cl L := hLr.below hd501
      have OK_502 : Sl.Own kRK wr.drew 0 pk ck (L.map keyN) := hKo.below hd501
      have X_502 : Row wr.drew X 55 (scs x) := hXr.old hd501
      have K_502 : Row wr.drew K 84 (kcs (keyN x)) := hKr.old hd501
      have bel_502 : Chg F w wr.drew := belF.old hd501
      clear hSr hLr hKo hXr hKr belF hd501
      generalize wr.drew = yz501 at S_502 OL_502 OK_502 X_502 K_502 bel_502 ⊢
      refine h_take 0 (.int .i64 (k : Int)) rfl 8 rfl (by kernel_rfl) (by kernel_rfl) (by kernel_rfl) (by kernel_rfl) (fun _ _ _ h => h) (fun w' _ => by kernel_rfl) ⟨S_502, trivial⟩ ?_
      simp only [Act.put, List.setIfInBounds_toArray, List.set_cons_zero, List.set_cons_succ]
      refine h_take 1 (.pointer (some ⟨S, 0, none⟩)) rfl 9 rfl (by kernel_rfl) (by kernel_rfl) (by kernel_rfl) (by kernel_rfl) (fun _ _ _ h => h) (fun w' _ => by kernel_rfl) ⟨S_502, trivial⟩ ?_
      simp only [Act.put, List.setIfInBounds_toArray, List.set_cons_zero, List.set_cons_succ]
      refine h_take 2 (.pointer (some ⟨S, 0, none⟩)) rfl 10 rfl (by kernel_rfl) (by kernel_rfl) (by kernel_rfl) (by kernel_rfl) (fun _ _ _ h => h) (fun w' _ => by kernel_rfl) ⟨S_502, trivial⟩ ?_
      simp only [Act.put, List.setIfInBounds_toArray, List.set_cons_zero, List.set_cons_succ]
      refine h_take 3 (.pointer (some ⟨S, 1, none⟩)) rfl 11 rfl (by kernel_rfl) (by kernel_rfl) (by kernel_rfl) (by kernel_rfl) (fun _ _ _ h => h) (fun w' _ => by kernel_rfl) ⟨S_502, trivial⟩ ?_
      simp only [Act.put, List.setIfInBounds_toArray, List.set_cons_zero, List.set_cons_succ]
      refine h_take 4 (.slice pk L.length ck) rfl 12 rfl (by kernel_rfl) (by kernel_rfl) (by kernel_rfl) (by kernel_rfl) (fun _ _ _ h => h) (fun w' hw => run_op_load1 _ _ rfl (.slice 84) fRK.und rfl ⟨S, 1, none⟩ rfl (.slice pk L.length ck) (hw.1.cell (i := 1) rfl)) ⟨S_502, trivial⟩ ?_
      simp only [Act.put, List.setIfInBounds_toArray, List.set_cons_zero, List.set_cons_succ]
      refine h_take 5 (.int .i64 (L.length : Int)) rfl 13 rfl (by kernel_rfl) (by kernel_rfl) (by kernel_rfl) (by kernel_rfl) (fun _ _ _ h => h) (fun w' _ => Sl.run_op_lenK _ _ _ rfl fRK.und _ _ _ rfl w') ⟨S_502, trivial⟩ ?_
      simp only [Act.put, List.setIfInBounds_toArray, List.set_cons_zero, List.set_cons_succ]
      refine h_take 6 (.bool false) rfl 14 rfl (by kernel_rfl) (by kernel_rfl) (by kernel_rfl) (by kernel_rfl) (fun _ _ _ h => h) (fun w' _ => cmp_lss _ _ _ _ rfl .i64 (k : Int) (L.length : Int) rfl rfl false d1 w') ⟨S_502, trivial⟩ ?_
      simp only [Act.put, List.setIfInBounds_toArray, List.set_cons_zero, List.set_cons_succ]
      refine h_take 7 (.bool false) rfl 15 rfl (by kernel_rfl) (by kernel_rfl) (by kernel_rfl) (by kernel_rfl) (fun _ _ _ h => h) (fun w' _ => by kernel_rfl) ⟨S_502, trivial⟩ ?_
      simp only [Act.put, List.setIfInBounds_toArray, List.set_cons_zero, List.set_cons_succ]
      refine h_pass 8 rfl 16 rfl (by kernel_rfl) (by kernel_rfl) (by kernel_rfl) (by kernel_rfl) (fun _ _ _ h => h) ⟨S_502, trivial⟩ ?_
      simp only [Act.put, List.setIfInBounds_toArray, List.set_cons_zero, List.set_cons_succ]
      refine h_pass 9 rfl 17 rfl (by kernel_rfl) (by kernel_rfl) (by kernel_rfl) (by kernel_rfl) (fun _ _ _ h => h) ⟨S_502, trivial⟩ ?_
      simp only [Act.put, List.setIfInBounds_toArray, List.set_cons_zero, List.set_cons_succ]
      refine h_pass 10 rfl 18 rfl (by kernel_rfl) (by kernel_rfl) (by kernel_rfl) (by kernel_rfl) (fun _ _ _ h => h) ⟨S_502, trivial⟩ ?_
      simp only [Act.put, List.setIfInBounds_toArray, List.set_cons_zero, List.set_cons_succ]
      refine h_pass 11 rfl 19 rfl (by kernel_rfl) (by kernel_rfl) (by kernel_rfl) (by kernel_rfl) (fun _ _ _ h => h) ⟨S_502, trivial⟩ ?_
      simp only [Act.put, List.setIfInBounds_toArray, List.set_cons_zero, List.set_cons_succ]
      refine h_pass 12 rfl 20 rfl (by kernel_rfl) (by kernel_rfl) (by kernel_rfl) (by kernel_rfl) (fun _ _ _ h => h) ⟨S_502, trivial⟩ ?_
      simp only [Act.put, List.setIfInBounds_toArray, List.set_cons_zero, List.set_cons_succ]
      refine h_pass 13 rfl 21 rfl (by kernel_rfl) (by kernel_rfl) (by kernel_rfl) (by kernel_rfl) (fun _ _ _ h => h) ⟨S_502, trivial⟩ ?_
      simp only [Act.put, List.setIfInBounds_toArray, List.set_cons_zero, List.set_cons_succ]
      refine h_pass 14 rfl 22 rfl (by kernel_rfl) (by kernel_rfl) (by kernel_rfl) (by kernel_rfl) (fun _ _ _ h => h) ⟨S_502, trivial⟩ ?_
      simp only [Act.put, List.setIfInBounds_toArray, List.set_cons_zero, List.set_cons_succ]
      refine h_pass 15 rfl 23 rfl (by kernel_rfl) (by kernel_rfl) (by kernel_rfl) (by kernel_rfl) (fun _ _ _ h => h) ⟨S_502, trivial⟩ ?_
      simp only [Act.put, List.setIfInBounds_toArray, List.set_cons_zero, List.set_cons_succ]
      refine h_pass 16 rfl 24 rfl (by kernel_rfl) (by kernel_rfl) (by kernel_rfl) (by kernel_rfl) (fun _ _ _ h => h) ⟨S_502, trivial⟩ ?_
      simp only [Act.put, List.setIfInBounds_toArray, List.set_cons_zero, List.set_cons_succ]
      refine h_pass 17 rfl 25 rfl (by kernel_rfl) (by kernel_rfl) (by kernel_rfl) (by kernel_rfl) (fun _ _ _ h => h) ⟨S_502, trivial⟩ ?_
      simp only [Act.put, List.setIfInBounds_toArray, List.set_cons_zero, List.set_cons_succ]
      refine h_take 18 (.bool false) rfl 26 rfl (by kernel_rfl) (by kernel_rfl) (by kernel_rfl) (by kernel_rfl) (fun _ _ _ h => h) (fun w' _ => by kernel_rfl) ⟨S_502, trivial⟩ ?_
      simp only [Act.put, List.setIfInBounds_toArray, List.set_cons_zero, List.set_cons_succ]
      refine wpAnyH_done (by kernel_rfl) ?_ _
      go_wp2_with fail
      have IC : Hid (k ≤ cl) := Lib.hid (by have := OL_502.cap; omega); have KCM : Hid (L.length ≤ cl) := Lib.hid OL_502.cap
      have IK : Hid (k ≤ ck) := Lib.hid (by have := OK_502.cap; rw [List.length_map] at this; omega); have KKM : Hid ((L.map keyN).length ≤ ck) := Lib.hid OK_502.cap
      have TKL : Hid (k = (L.take k).length) := Lib.hid (by rw [List.length_take]; omega); have DKL : Hid (L.length - k = (L.drop k).length) := Lib.hid (by rw [List.length_drop])
      have TDL : Hid ((L.take k).length + 1 + (L.drop k).length ≤ 1000000) := Lib.hid (by rw [List.length_take, List.length_drop]; omega)
      have TKK : Hid (k = ((L.map keyN).take k).length) := Lib.hid (by rw [List.length_take, List.length_map]; omega); have DKK : Hid (L.length - k = ((L.map keyN).drop k).length) := Lib.hid (by rw [List.length_drop, List.length_map])
      have TDK : Hid (((L.map keyN).take k).length + 1 + ((L.map keyN).drop k).length ≤ 1000000) := Lib.hid (by rw [List.length_take, List.length_drop, List.length_map]; omega)
      have HINK : Hid ((L.map keyN).take k ++ [keyN x] ++ (L.map keyN).drop k = (ins rvK x L).map keyN) := Lib.hid (by rw [← HIN.out, List.map_append, List.map_append, List.map_take, List.map_drop]; rfl)
      have HNL : Hid ((ins rvK x L).length = L.length + 1) := Lib.hid (ins_len x L)
      have HNK : Hid (((ins rvK x L).map keyN).length = L.length + 1) := Lib.hid (by rw [List.length_map, ins_len])
      clear hL
      refine wp_region_last (S := fun w' => Row w' S 68 (ncs pl L.length cl pk L.length ck r pin) ∧ Row w' X 55 (scs x) ∧ True) 21 21 rfl (by kernel_rfl) (by kernel_rfl) ?_
      change wpAnyH _ _ _ _ _ _ _ _ yz501.drew
      have hd503 : Below yz501.heap.size yz501 yz501.drew := (Below.refl _ _).drew
      have S_504 : Row yz501.drew S 68 (ncs pl L.length cl pk L.length ck r pin) := S_502.old hd503
      have OL_504 : Sl.Own kR yz501.drew 0 pl cl L := OL_502.below hd503
      have OK_504 : Sl.Own kRK yz501.drew 0 pk ck (L.map keyN) := OK_502.below hd503
      have X_504 : Row yz501.drew X 55 (scs x) := X_502.old hd503
      have K_504 : Row yz501.drew K 84 (kcs (keyN x)) := K_502.old hd503
      have bel_504 : Chg F w yz501.drew := bel_502.old hd503
      clear S_502 OL_502 OK_502 X_502 K_502 bel_502 hd503
      generalize yz501.drew = yz503 at S_504 OL_504 OK_504 X_504 K_504 bel_504 ⊢
      have hws0 := bel_504.size
      refine h_take 0 (.pointer (some ⟨S, 0, none⟩)) rfl 29 rfl (by kernel_rfl) (by kernel_rfl) (by kernel_rfl) (by kernel_rfl) (fun _ _ _ h => h) (fun w' _ => by kernel_rfl) ⟨S_504, X_504, trivial⟩ ?_
      simp only [Act.put, List.setIfInBounds_toArray, List.set_cons_zero, List.set_cons_succ]
      refine h_take 2 (.pointer (some ⟨S, 0, none⟩)) rfl 31 rfl (by kernel_rfl) (by kernel_rfl) (by kernel_rfl) (by kernel_rfl) (fun _ _ _ h => h) (fun w' _ => by kernel_rfl) ⟨S_504, X_504, trivial⟩ ?_
      simp only [Act.put, List.setIfInBounds_toArray, List.set_cons_zero, List.set_cons_succ]
      refine h_take 3 (.pointer (some ⟨S, 0, none⟩)) rfl 32 rfl (by kernel_rfl) (by kernel_rfl) (by kernel_rfl) (by kernel_rfl) (fun _ _ _ h => h) (fun w' _ => by kernel_rfl) ⟨S_504, X_504, trivial⟩ ?_
      simp only [Act.put, List.setIfInBounds_toArray, List.set_cons_zero, List.set_cons_succ]
      refine h_take 4 (.pointer (some ⟨S, 0, none⟩)) rfl 33 rfl (by kernel_rfl) (by kernel_rfl) (by kernel_rfl) (by kernel_rfl) (fun _ _ _ h => h) (fun w' _ => by kernel_rfl) ⟨S_504, X_504, trivial⟩ ?_
      simp only [Act.put, List.setIfInBounds_toArray, List.set_cons_zero, List.set_cons_succ]
      refine h_take 5 (.slice pl L.length cl) rfl 34 rfl (by kernel_rfl) (by kernel_rfl) (by kernel_rfl) (by kernel_rfl) (fun _ _ _ h => h) (fun w' hw => run_op_load1 _ _ rfl (.slice 55) fR.und rfl ⟨S, 0, none⟩ rfl (.slice pl L.length cl) (hw.1.cell (i := 0) rfl)) ⟨S_504, X_504, trivial⟩ ?_
      simp only [Act.put, List.setIfInBounds_toArray, List.set_cons_zero, List.set_cons_succ]
      refine h_take 6 (.int .i64 (k : Int)) rfl 35 rfl (by kernel_rfl) (by kernel_rfl) (by kernel_rfl) (by kernel_rfl) (fun _ _ _ h => h) (fun w' _ => by kernel_rfl) ⟨S_504, X_504, trivial⟩ ?_
      simp only [Act.put, List.setIfInBounds_toArray, List.set_cons_zero, List.set_cons_succ]
      refine h_take 7 (.slice pl k cl) rfl 36 rfl (by kernel_rfl) (by kernel_rfl) (by kernel_rfl) (by kernel_rfl) (fun _ _ _ h => h) (fun w' _ => Sl.run_op_head fR _ _ rfl _ _ _ rfl .i64 _ rfl k rfl IC.out w') ⟨S_504, X_504, trivial⟩ ?_
      simp only [Act.put, List.setIfInBounds_toArray, List.set_cons_zero, List.set_cons_succ]
      refine h_take 9 (.agg (scs x).toArray) rfl 38 rfl (by kernel_rfl) (by kernel_rfl) (by kernel_rfl) (by kernel_rfl) (fun _ _ _ h => h) (fun w' hw => run_op_load _ _ rfl X (0) rfl (scs x) (((Has.refl _)).range hw.2.1) ((Sa.sz_rsta KX.out))) ⟨S_504, X_504, trivial⟩ ?_
      simp only [Act.put, List.setIfInBounds_toArray, List.set_cons_zero, List.set_cons_succ]
      refine h_take 12 (.pointer (some ⟨S, 0, none⟩)) rfl 41 rfl (by kernel_rfl) (by kernel_rfl) (by kernel_rfl) (by kernel_rfl) (fun _ _ _ h => h) (fun w' _ => by kernel_rfl) ⟨S_504, X_504, trivial⟩ ?_
      simp only [Act.put, List.setIfInBounds_toArray, List.set_cons_zero, List.set_cons_succ]
      refine h_take 13 (.pointer (some ⟨S, 0, none⟩)) rfl 42 rfl (by kernel_rfl) (by kernel_rfl) (by kernel_rfl) (by kernel_rfl) (fun _ _ _ h => h) (fun w' _ => by kernel_rfl) ⟨S_504, X_504, trivial⟩ ?_
      simp only [Act.put, List.setIfInBounds_toArray, List.set_cons_zero, List.set_cons_succ]
      refine h_take 14 (.pointer (some ⟨S, 0, none⟩)) rfl 43 rfl (by kernel_rfl) (by kernel_rfl) (by kernel_rfl) (by kernel_rfl) (fun _ _ _ h => h) (fun w' _ => by kernel_rfl) ⟨S_504, X_504, trivial⟩ ?_
      simp only [Act.put, List.setIfInBounds_toArray, List.set_cons_zero, List.set_cons_succ]
      refine h_take 15 (.slice pl L.length cl) rfl 44 rfl (by kernel_rfl) (by kernel_rfl) (by kernel_rfl) (by kernel_rfl) (fun _ _ _ h => h) (fun w' hw => run_op_load1 _ _ rfl (.slice 55) fR.und rfl ⟨S, 0, none⟩ rfl (.slice pl L.length cl) (hw.1.cell (i := 0) rfl)) ⟨S_504, X_504, trivial⟩ ?_
      simp only [Act.put, List.setIfInBounds_toArray, List.set_cons_zero, List.set_cons_succ]
      refine h_take 16 (.int .i64 (k : Int)) rfl 45 rfl (by kernel_rfl) (by kernel_rfl) (by kernel_rfl) (by kernel_rfl) (fun _ _ _ h => h) (fun w' _ => by kernel_rfl) ⟨S_504, X_504, trivial⟩ ?_
      simp only [Act.put, List.setIfInBounds_toArray, List.set_cons_zero, List.set_cons_succ]
      refine h_take 17 (.slice (Sl.onN pl k 363 cl) (L.length - k) (cl - k)) rfl 46 rfl (by kernel_rfl) (by kernel_rfl) (by kernel_rfl) (by kernel_rfl) (fun _ _ _ h => h) (fun w' _ => Sl.run_op_tail fR _ _ rfl _ _ _ rfl .i64 _ rfl k rfl hk w') ⟨S_504, X_504, trivial⟩ ?_
      simp only [Act.put, List.setIfInBounds_toArray, List.set_cons_zero, List.set_cons_succ]
      refine Sl.h_cat3 (i := 1) (j := 8) (m := 10) (k := 11) (n := 18) rfl rfl rfl rfl rfl (by kernel_rfl) (by kernel_rfl) (by kernel_rfl) (by kernel_rfl) (by kernel_rfl) (by kernel_rfl) (by kernel_rfl) fR 30 37 39 40 47 rfl rfl rfl rfl rfl rfl rfl rfl rfl rfl (by decide) (by decide) (by decide) (by decide) _ rfl rfl (x) (KX.out) _ rfl _ _ _ _ _ _ rfl rfl rfl (pl) (Sl.onN pl k 363 cl) (k) (L.length - k) (cl) (cl - k) (L.take k) (L.drop k) (TKL.out) (DKL.out) ((OL_504.at fR).take k) ((OL_504.at fR).tail k KCM.out) (TDL.out) rfl (fun _ => rfl) (fun _ _ => rfl) (fun _ => rfl) (fun _ => rfl) (fun _ _ => rfl) (fun _ _ => rfl) (fun _ _ _ => rfl) (fun _ _ _ => rfl) (fun _ _ _ _ => rfl) (fun _ _ _ _ => rfl) (fun w' hB => ⟨S_504.old hB, X_504.old hB, trivial⟩) ?_
      intro _ _ _ _ p' c' y2 hO2 hB
      have S_505 : Row y2 S 68 (ncs pl L.length cl pk L.length ck r pin) := S_504.old hB
      have OL_505 : Sl.Own kR y2 0 pl cl L := OL_504.below hB
      have OK_505 : Sl.Own kRK y2 0 pk ck (L.map keyN) := OK_504.below hB
      have X_505 : Row y2 X 55 (scs x) := X_504.old hB
      have K_505 : Row y2 K 84 (kcs (keyN x)) := K_504.old hB
      have bel_505 : Chg F w y2 := bel_504.old hB
      clear S_504 OL_504 OK_504 X_504 K_504 bel_504 hB
      simp only [Act.put, List.setIfInBounds_toArray, List.set_cons_zero, List.set_cons_succ]
      refine h_take 19 (.pointer (some ⟨S, 0, none⟩)) rfl 48 rfl (by kernel_rfl) (by kernel_rfl) (by kernel_rfl) (by kernel_rfl) (fun _ _ _ h => h) (fun w' _ => by kernel_rfl) ⟨S_505, X_505, trivial⟩ ?_
      simp only [Act.put, List.setIfInBounds_toArray, List.set_cons_zero, List.set_cons_succ]
      refine h_take 20 (.pointer (some ⟨S, 0, none⟩)) rfl 49 rfl (by kernel_rfl) (by kernel_rfl) (by kernel_rfl) (by kernel_rfl) (fun _ _ _ h => h) (fun w' _ => by kernel_rfl) ⟨S_505, X_505, trivial⟩ ?_
      simp only [Act.put, List.setIfInBounds_toArray, List.set_cons_zero, List.set_cons_succ]
      rw [HIN.out] at hO2 ⊢
      rw [HNL.out]
      refine wpAnyH_done (by kernel_rfl) ?_ _
      refine last_normal ?_
      refine o_skip rfl rfl (by kernel_rfl) (run_op_storeV _ _ _ rfl S (0) rfl (.slice p' (L.length + 1) c') rfl (one_sl _ _ _) sz_slR _ _ S_505 (lt_ncs 0 (by decide) _ _ _ _ _ _ _ _)) ?_
      have rq := row_setRow S_505 ((ncs pl L.length cl pk L.length ck r pin).set (0) (.slice p' (L.length + 1) c'))
      have oq := Only.setRow S y2 ((ncs pl L.length cl pk L.length ck r pin).set (0) (.slice p' (L.length + 1) c')).toArray
      generalize y2.setRow S ((ncs pl L.length cl pk L.length ck r pin).set (0) (.slice p' (L.length + 1) c')).toArray = y3 at rq oq ⊢
      have hSy3 : Row y3 S 68 (ncs p' (L.length + 1) c' pk L.length ck r pin) := rq
      have hfr0 : From (fun k => bk p' = some k) w.heap.size := fun j e => Nat.le_trans hws0 (hO2.ge e).1
      have hM0 := hO2.low (Nat.zero_le _)
      clear rq hO2
      clear OL_505
      have S_506 : Row y3 S 68 (ncs p' (L.length + 1) c' pk L.length ck r pin) := hSy3
      have OK_506 : Sl.Own kRK y3 0 pk ck (L.map keyN) := OK_505.only oq (OK_505.ne S_505 (by decide))
      have X_506 : Row y3 X 55 (scs x) := X_505.only oq (X_505.ne_type S_505 (by decide))
      have K_506 : Row y3 K 84 (kcs (keyN x)) := K_505.only oq (K_505.ne_type S_505 (by decide))
      have OM_506 : Sl.Own kR y3 0 p' c' (ins rvK x L) := hM0.only oq (hM0.ne S_505 (by decide))
      have bel_506 : Chg F w y3 := bel_505.only oq (FS.out)
      clear S_505 OK_505 X_505 K_505 hM0 bel_505 oq
      go_wp2_with fail
      refine wp_region_last (S := fun w' => Row w' S 68 (ncs p' (L.length + 1) c' pk L.length ck r pin) ∧ Row w' K 84 (kcs (keyN x)) ∧ True) 21 21 rfl (by kernel_rfl) (by kernel_rfl) ?_
      change wpAnyH _ _ _ _ _ _ _ _ y3.drew
      have hd507 : Below y3.heap.size y3 y3.drew := (Below.refl _ _).drew
      have S_508 : Row y3.drew S 68 (ncs p' (L.length + 1) c' pk L.length ck r pin) := S_506.old hd507
      have OK_508 : Sl.Own kRK y3.drew 0 pk ck (L.map keyN) := OK_506.below hd507
      have X_508 : Row y3.drew X 55 (scs x) := X_506.old hd507
      have K_508 : Row y3.drew K 84 (kcs (keyN x)) := K_506.old hd507
      have OM_508 : Sl.Own kR y3.drew 0 p' c' (ins rvK x L) := OM_506.below hd507
      have bel_508 : Chg F w y3.drew := bel_506.old hd507
      clear S_506 OK_506 X_506 K_506 OM_506 bel_506 hd507
      generalize y3.drew = yz507 at S_508 OK_508 X_508 K_508 OM_508 bel_508 ⊢
      have hws1 := bel_508.size
      refine h_take 0 (.pointer (some ⟨S, 0, none⟩)) rfl 50 rfl (by kernel_rfl) (by kernel_rfl) (by kernel_rfl) (by kernel_rfl) (fun _ _ _ h => h) (fun w' _ => by kernel_rfl) ⟨S_508, K_508, trivial⟩ ?_
      simp only [Act.put, List.setIfInBounds_toArray, List.set_cons_zero, List.set_cons_succ]
      refine h_take 2 (.pointer (some ⟨S, 0, none⟩)) rfl 52 rfl (by kernel_rfl) (by kernel_rfl) (by kernel_rfl) (by kernel_rfl) (fun _ _ _ h => h) (fun w' _ => by kernel_rfl) ⟨S_508, K_508, trivial⟩ ?_
      simp only [Act.put, List.setIfInBounds_toArray, List.set_cons_zero, List.set_cons_succ]
      refine h_take 3 (.pointer (some ⟨S, 0, none⟩)) rfl 53 rfl (by kernel_rfl) (by kernel_rfl) (by kernel_rfl) (by kernel_rfl) (fun _ _ _ h => h) (fun w' _ => by kernel_rfl) ⟨S_508, K_508, trivial⟩ ?_
      simp only [Act.put, List.setIfInBounds_toArray, List.set_cons_zero, List.set_cons_succ]
      refine h_take 4 (.pointer (some ⟨S, 1, none⟩)) rfl 54 rfl (by kernel_rfl) (by kernel_rfl) (by kernel_rfl) (by kernel_rfl) (fun _ _ _ h => h) (fun w' _ => by kernel_rfl) ⟨S_508, K_508, trivial⟩ ?_
      simp only [Act.put, List.setIfInBounds_toArray, List.set_cons_zero, List.set_cons_succ]
      refine h_take 5 (.slice pk L.length ck) rfl 55 rfl (by kernel_rfl) (by kernel_rfl) (by kernel_rfl) (by kernel_rfl) (fun _ _ _ h => h) (fun w' hw => run_op_load1 _ _ rfl (.slice 84) fRK.und rfl ⟨S, 1, none⟩ rfl (.slice pk L.length ck) (hw.1.cell (i := 1) rfl)) ⟨S_508, K_508, trivial⟩ ?_
      simp only [Act.put, List.setIfInBounds_toArray, List.set_cons_zero, List.set_cons_succ]
      refine h_take 6 (.int .i64 (k : Int)) rfl 56 rfl (by kernel_rfl) (by kernel_rfl) (by kernel_rfl) (by kernel_rfl) (fun _ _ _ h => h) (fun w' _ => by kernel_rfl) ⟨S_508, K_508, trivial⟩ ?_
      simp only [Act.put, List.setIfInBounds_toArray, List.set_cons_zero, List.set_cons_succ]
      refine h_take 7 (.slice pk k ck) rfl 57 rfl (by kernel_rfl) (by kernel_rfl) (by kernel_rfl) (by kernel_rfl) (fun _ _ _ h => h) (fun w' _ => Sl.run_op_head fRK _ _ rfl _ _ _ rfl .i64 _ rfl k rfl IK.out w') ⟨S_508, K_508, trivial⟩ ?_
      simp only [Act.put, List.setIfInBounds_toArray, List.set_cons_zero, List.set_cons_succ]
      refine h_take 9 (.agg (kcs (keyN x)).toArray) rfl 59 rfl (by kernel_rfl) (by kernel_rfl) (by kernel_rfl) (by kernel_rfl) (fun _ _ _ h => h) (fun w' hw => run_op_load _ _ rfl K (0) rfl (kcs (keyN x)) (((Has.refl _)).range hw.2.1) ((Od.sz_rkey KK.out))) ⟨S_508, K_508, trivial⟩ ?_
      simp only [Act.put, List.setIfInBounds_toArray, List.set_cons_zero, List.set_cons_succ]
      refine h_take 12 (.pointer (some ⟨S, 0, none⟩)) rfl 62 rfl (by kernel_rfl) (by kernel_rfl) (by kernel_rfl) (by kernel_rfl) (fun _ _ _ h => h) (fun w' _ => by kernel_rfl) ⟨S_508, K_508, trivial⟩ ?_
      simp only [Act.put, List.setIfInBounds_toArray, List.set_cons_zero, List.set_cons_succ]
      refine h_take 13 (.pointer (some ⟨S, 0, none⟩)) rfl 63 rfl (by kernel_rfl) (by kernel_rfl) (by kernel_rfl) (by kernel_rfl) (fun _ _ _ h => h) (fun w' _ => by kernel_rfl) ⟨S_508, K_508, trivial⟩ ?_
      simp only [Act.put, List.setIfInBounds_toArray, List.set_cons_zero, List.set_cons_succ]
      refine h_take 14 (.pointer (some ⟨S, 1, none⟩)) rfl 64 rfl (by kernel_rfl) (by kernel_rfl) (by kernel_rfl) (by kernel_rfl) (fun _ _ _ h => h) (fun w' _ => by kernel_rfl) ⟨S_508, K_508, trivial⟩ ?_
      simp only [Act.put, List.setIfInBounds_toArray, List.set_cons_zero, List.set_cons_succ]
      refine h_take 15 (.slice pk L.length ck) rfl 65 rfl (by kernel_rfl) (by kernel_rfl) (by kernel_rfl) (by kernel_rfl) (fun _ _ _ h => h) (fun w' hw => run_op_load1 _ _ rfl (.slice 84) fRK.und rfl ⟨S, 1, none⟩ rfl (.slice pk L.length ck) (hw.1.cell (i := 1) rfl)) ⟨S_508, K_508, trivial⟩ ?_
      simp only [Act.put, List.setIfInBounds_toArray, List.set_cons_zero, List.set_cons_succ]
      refine h_take 16 (.int .i64 (k : Int)) rfl 66 rfl (by kernel_rfl) (by kernel_rfl) (by kernel_rfl) (by kernel_rfl) (fun _ _ _ h => h) (fun w' _ => by kernel_rfl) ⟨S_508, K_508, trivial⟩ ?_
      simp only [Act.put, List.setIfInBounds_toArray, List.set_cons_zero, List.set_cons_succ]
      refine h_take 17 (.slice (Sl.onN pk k 65 ck) (L.length - k) (ck - k)) rfl 67 rfl (by kernel_rfl) (by kernel_rfl) (by kernel_rfl) (by kernel_rfl) (fun _ _ _ h => h) (fun w' _ => Sl.run_op_tail fRK _ _ rfl _ _ _ rfl .i64 _ rfl k rfl hk w') ⟨S_508, K_508, trivial⟩ ?_
      simp only [Act.put, List.setIfInBounds_toArray, List.set_cons_zero, List.set_cons_succ]
      refine Sl.h_cat3 (i := 1) (j := 8) (m := 10) (k := 11) (n := 18) rfl rfl rfl rfl rfl (by kernel_rfl) (by kernel_rfl) (by kernel_rfl) (by kernel_rfl) (by kernel_rfl) (by kernel_rfl) (by kernel_rfl) fRK 51 58 60 61 68 rfl rfl rfl rfl rfl rfl rfl rfl rfl rfl (by decide) (by decide) (by decide) (by decide) _ rfl rfl (keyN x) (KK.out) _ rfl _ _ _ _ _ _ rfl rfl rfl (pk) (Sl.onN pk k 65 ck) (k) (L.length - k) (ck) (ck - k) ((L.map keyN).take k) ((L.map keyN).drop k) (TKK.out) (DKK.out) ((OK_508.at fRK).take k) ((OK_508.at fRK).tail k KKM.out) (TDK.out) rfl (fun _ => rfl) (fun _ _ => rfl) (fun _ => rfl) (fun _ => rfl) (fun _ _ => rfl) (fun _ _ => rfl) (fun _ _ _ => rfl) (fun _ _ _ => rfl) (fun _ _ _ _ => rfl) (fun _ _ _ _ => rfl) (fun w' hB => ⟨S_508.old hB, K_508.old hB, trivial⟩) ?_
      intro _ _ _ _ q' d' y4 hO4 hB
      have S_509 : Row y4 S 68 (ncs p' (L.length + 1) c' pk L.length ck r pin) := S_508.old hB
      have OK_509 : Sl.Own kRK y4 0 pk ck (L.map keyN) := OK_508.below hB
      have X_509 : Row y4 X 55 (scs x) := X_508.old hB
      have K_509 : Row y4 K 84 (kcs (keyN x)) := K_508.old hB
      have OM_509 : Sl.Own kR y4 0 p' c' (ins rvK x L) := OM_508.below hB
      have bel_509 : Chg F w y4 := bel_508.old hB
      clear S_508 OK_508 X_508 K_508 OM_508 bel_508 hB
      simp only [Act.put, List.setIfInBounds_toArray, List.set_cons_zero, List.set_cons_succ]
      refine h_take 19 (.pointer (some ⟨S, 0, none⟩)) rfl 69 rfl (by kernel_rfl) (by kernel_rfl) (by kernel_rfl) (by kernel_rfl) (fun _ _ _ h => h) (fun w' _ => by kernel_rfl) ⟨S_509, K_509, trivial⟩ ?_
      simp only [Act.put, List.setIfInBounds_toArray, List.set_cons_zero, List.set_cons_succ]
      refine h_take 20 (.pointer (some ⟨S, 1, none⟩)) rfl 70 rfl (by kernel_rfl) (by kernel_rfl) (by kernel_rfl) (by kernel_rfl) (fun _ _ _ h => h) (fun w' _ => by kernel_rfl) ⟨S_509, K_509, trivial⟩ ?_
      simp only [Act.put, List.setIfInBounds_toArray, List.set_cons_zero, List.set_cons_succ]
      rw [HINK.out] at hO4 ⊢
      rw [HNK.out]
      refine wpAnyH_done (by kernel_rfl) ?_ _
      refine last_normal ?_
      refine o_skip rfl rfl (by kernel_rfl) (run_op_storeV _ _ _ rfl S (1) rfl (.slice q' (L.length + 1) d') rfl (one_sl _ _ _) sz_slRK _ _ S_509 (lt_ncs 1 (by decide) _ _ _ _ _ _ _ _)) ?_
      have rq := row_setRow S_509 ((ncs p' (L.length + 1) c' pk L.length ck r pin).set (1) (.slice q' (L.length + 1) d'))
      have oq := Only.setRow S y4 ((ncs p' (L.length + 1) c' pk L.length ck r pin).set (1) (.slice q' (L.length + 1) d')).toArray
      generalize y4.setRow S ((ncs p' (L.length + 1) c' pk L.length ck r pin).set (1) (.slice q' (L.length + 1) d')).toArray = y5 at rq oq ⊢
      have hSy5 : Row y5 S 68 (ncs p' (L.length + 1) c' q' (L.length + 1) d' r pin) := rq
      have hfr1 : From (fun k => bk q' = some k) w.heap.size := fun j e => Nat.le_trans hws1 (hO4.ge e).1
      have hM1 := hO4.low (Nat.zero_le _)
      clear rq hO4
      clear OK_509
      have S_510 : Row y5 S 68 (ncs p' (L.length + 1) c' q' (L.length + 1) d' r pin) := hSy5
      have X_510 : Row y5 X 55 (scs x) := X_509.only oq (X_509.ne_type S_509 (by decide))
      have K_510 : Row y5 K 84 (kcs (keyN x)) := K_509.only oq (K_509.ne_type S_509 (by decide))
      have OM_510 : Sl.Own kR y5 0 p' c' (ins rvK x L) := OM_509.only oq (OM_509.ne S_509 (by decide))
      have ON_510 : Sl.Own kRK y5 0 q' d' ((ins rvK x L).map keyN) := hM1.only oq (hM1.ne S_509 (by decide))
      have bel_510 : Chg F w y5 := bel_509.only oq (FS.out)
      clear S_509 X_509 K_509 OM_509 hM1 bel_509 oq
      go_wp2_with fail
      go_end0
      exact ⟨rfl, rs_done (HNL.out.symm ▸ S_510) OM_510 ON_510 hfr0 hfr1 PO.out HLI.out bel_510.size FS.out, bel_510⟩
end Go.Proofs.YtnjmocobncncdaaGreatDoor.So

/-
  The contracts of the document's Put and Keep (layer 19). Over this seat's translation.
-/
namespace Go.Proofs.YtnjmocobncncdaaGreatDoor.So
open Go.ChangeShapes Go.WideShapes Go.ChangeAt Go.RowKit Go.Proofs.YtnjmocobncncdaaGreatDoor.Mem Go.Proofs.YtnjmocobncncdaaGreatDoor.Bt Go.Proofs.YtnjmocobncncdaaGreatDoor.Km
open Go.Proofs.YtnjmocobncncdaaGreatDoor.Ep (H32 zh zh_ok Has h_len szH zH fitH allH one_app num32)
open Go.Proofs.YtnjmocobncncdaaGreatDoor.Sl (Kind At bk)
open Go.Proofs.YtnjmocobncncdaaGreatDoor.Sha (ks)
open Go.Proofs.YtnjmocobncncdaaGreatDoor.Sa (Sta scs digS digS_ok zs zs_ok z_sta sz_sta scs_one fitS allS h_drw h_lngth)
open Go.Proofs.YtnjmocobncncdaaGreatDoor.Od (Ky kcs keyN keyN_ok kcs_len kcs_one kcmp kval zk z_key sz_key fitK allK built_key compare_anyD)
set_option linter.unusedVariables false
set_option linter.unusedSimpArgs false

theorem pos_has : ∀ (L : List Sta) (h : List Nat), (posK (L.map keyN) h).isSome = hasB h L
  | [], h => rfl
  | x :: L, h => by
    unfold hasB
    rw [List.map_cons, List.any_cons]
    unfold posK
    by_cases e : (keyN x).hash = h
    · rw [if_pos e, show decide (digS x = h) = true from decide_eq_true e]; rfl
    · rw [if_neg e, show decide (digS x = h) = false from decide_eq_false e, Bool.false_or, Option.isSome_map]
      exact pos_has L h
theorem posI_in {L : List Sta} {h : List Nat} (hh : hasB h L = true) : 0 ≤ posI (L.map keyN) h := by
  have e := pos_has L h
  rw [hh] at e
  unfold posI
  cases q : posK (L.map keyN) h with
  | none => rw [q] at e; cases e
  | some i => exact Int.natCast_nonneg i
theorem posI_no {L : List Sta} {h : List Nat} (hh : ¬ hasB h L = true) : posI (L.map keyN) h = -1 := by
  have e := pos_has L h
  unfold posI
  cases q : posK (L.map keyN) h with
  | none => rfl
  | some i => rw [q] at e; exact absurd e.symm hh
theorem pinN_has (L : List Sta) (h : List Nat) (pin : Option (List Nat)) : pinN (L.map keyN) h pin = if hasB h L = true then some h else pin := by
  unfold pinN
  rw [pos_has]
set_option maxRecDepth 100000 in
theorem run_op_fieldRK {k : Ky} (kk : k.Ok) {o : Oper} {a : Act} (x : Operand) (ho : o.op = .field 84 x 2) (hx : a.eval x = .agg (kcs k).toArray) (w : World) :
    (execOp a.eval o).run Tryz.prog w = .ok (.value (.agg (u8s k.hash).toArray)) w := by
  obtain ⟨f, hf, ht, hof⟩ : ∃ f, (Tryz.prog.fieldsOf 84)[2]? = some f ∧ f.type = 32 ∧ f.offset = 33 := ⟨(Tryz.prog.fieldsOf 84)[2]!, by kernel_rfl, by kernel_rfl, by kernel_rfl⟩
  have hu : Tryz.prog.underlying 84 = some (.struct (Tryz.prog.fieldsOf 84)) := by kernel_rfl
  generalize Tryz.prog.fieldsOf 84 = fs at hf hu
  have c1 : Tryz.prog.cellsOf 32 = 32 := by kernel_rfl
  have hc := (Od.k33 kk).chunk (h_len kk.hash)
  have hp := run_part_fit (P := Tryz.prog) w (d := 2) (e := 32) (xs := kcs k) (off := 33) (by rw [c1, hc]; exact Ep.fit_hash 0 kk.hash)
  rw [c1, hc, row_cells (show Tryz.prog.underlying 32 = some (.array 32 5) by kernel_rfl) rfl] at hp
  unfold execOp
  simp [ho, hx, Instr.field, asAgg, run_underlying hu, hf, ht, hof, hp, Result.andThen]
structure RPPost (w : World) (F : Nat → Prop) (S r : Nat) (pin : Option (List Nat)) (q : List Sta × Option Sta) (e : Ending) (w' : World) : Prop where
  ret : e = .returned (.tuple #[.agg (u8s ((q.2.map digS).getD zh)).toArray, .bool q.2.isSome])
  at_ : ∃ F', RSAt w' F' S r pin q.1 ∧ Grew F F' w.heap.size
  chg : Chg F w w'
theorem lay_to {F : Nat → Prop} {S r : Nat} {pin : Option (List Nat)} {L : List Sta} (x : Sta) (w : World) (hC : RSAt w F S r pin L) (hl : L.length ≤ 1000) (ok : x.Ok) (hk : w.rangeAt 0 0 (u32s ks)) :
    Calls Tryz.prog 27 #[.pointer (some ⟨S, 0, none⟩), .agg (scs x).toArray] w fun e w' => e = .returned (.tuple #[]) ∧ (∃ F', RSAt w' F' S r pin (ins vK x L) ∧ Grew F F' w.heap.size) ∧ Chg F w w' :=
  (rslay_any F S r pin L x w hC hl ok hk).mono fun e w' h => ⟨h.ret, h.at_, h.chg⟩
theorem less_to {F : Nat → Prop} {S r : Nat} {pin : Option (List Nat)} {L : List Sta} {M : List Sta} {g : Option Sta} (w : World) (hC : RSAt w F S r pin L) (hl : L.length ≤ 1000) (h2 : 2 ≤ r) (e : less digS r pin L = (M, g)) :
    Calls Tryz.prog 28 #[.pointer (some ⟨S, 0, none⟩)] w fun e w' => e = .returned (.tuple #[.agg (u8s ((g.map digS).getD zh)).toArray, .bool g.isSome]) ∧ (∃ F', RSAt w' F' S r pin M ∧ Grew F F' w.heap.size) ∧ Chg F w w' :=
  (rsless_any F S r pin L w hC hl h2).mono fun e' w' h => by
    obtain ⟨h1, h2, h3⟩ := h
    have e1 : less dK r pin L = (M, g) := e
    rw [e1] at h1 h2
    exact ⟨h1, h2, h3⟩
theorem pinOf_to {F : Nat → Prop} {S r : Nat} {pin : Option (List Nat)} {L : List Sta} {v : Bool} {q : Option (List Nat)} (h : List Nat) (w : World) (hC : RSAt w F S r pin L) (hh : H32 h) (hl : L.length ≤ 1000) (e1 : hasB h L = v) (e2 : (if v = true then some h else pin) = q) :
    Calls Tryz.prog 12 #[.pointer (some ⟨S, 0, none⟩), .agg (u8s h).toArray] w fun e w' => e = .returned (.bool v) ∧ (∃ F', RSAt w' F' S r q L ∧ Grew F F' w.heap.size) ∧ Chg F w w' := by
  subst e2 e1
  refine (rspin_any F S r pin L h w hC hh hl).mono fun e w' q => ?_
  obtain ⟨h1, h2, h3⟩ := q
  rw [pinN_has] at h2
  rw [pos_has] at h1
  exact ⟨h1, ⟨F, h2, Grew.refl _ _⟩, h3⟩
set_option maxHeartbeats 4000000 in
set_option maxRecDepth 100000 in
theorem rsput_any (F : Nat → Prop) (S r : Nat) (pin : Option (List Nat)) (L : List Sta) (x : Sta) (w : World) (hC : RSAt w F S r pin L) (hl : L.length ≤ r) (hr : 2 ≤ r ∧ r ≤ 100) (kx : x.Ok) (hk : w.rangeAt 0 0 (u32s ks)) :
    Calls Tryz.prog 10 #[.pointer (some ⟨S, 0, none⟩), .agg (scs x).toArray] w (RPPost w F S r pin (putL r pin x L)) := by
  have hk1 : 0 < w.heap.size := range_lt hk (by simp [u32s, ks])
  have HKW : Hid (∀ w', Below w.heap.size w w' → w'.rangeAt 0 0 (u32s ks)) := Lib.hid fun w' hb => range_block hk (hb.block _ hk1)
  have KX := Lib.hid kx
  have KH := Lib.hid (digS_ok x)
  have KK := Lib.hid (keyN_ok kx)
  have LI := Lib.hid hC.lies
  have CO := Lib.hid (fun w0 h => Od.rof_any x w0 kx h)
  have CF := Lib.hid (fun w0 F S r pin L h q hh hl => rsfind_any F S r pin L h w0 q hh hl)
  have H2 := Lib.hid hr.1
  have HL := Lib.hid (show L.length ≤ 100 by omega)
  by_cases hb : hasB (digS x) L = true
  · have HQ := Lib.hid (put_in (r := r) (pin := pin) hb)
    rw [HQ.out]
    have dg : decide (0 ≤ posI (L.map keyN) (digS x)) = true := decide_eq_true (posI_in hb)
    obtain ⟨z, hz⟩ : ∃ z, z = posI (L.map keyN) (digS x) := ⟨_, rfl⟩
    rw [← hz] at dg
    have HZ := Lib.hid hz
    clear hk hk1 kx hl hr hb hz
    go_enter Tryz.func10, Tryz.ntmps10
    have bel0 : Chg (fun _ => False) w w := Chg.refl _ _
    have bw0 := Lib.hid (Below.refl w.heap.size w)
    go_wp2_with (first
      | ((with_reducible refine at_slot 3 ?_); (refine arm_box (o := ⟨some 3, _, _, _, _, _⟩) rfl _ _ rfl (scs x) rfl ?_); intro X v1 Xe hv1 nv1; try simp only [Act.put, List.setIfInBounds_toArray, List.set_cons_zero, List.set_cons_succ])
      | ((with_reducible refine at_slot 4 ?_); (refine arm_alloc (o := ⟨some 4, _, _, _, _, _⟩) rfl _ rfl (u8s zh) zH ?_); intro R v2 Re hv2 nv2; try simp only [Act.put, List.setIfInBounds_toArray, List.set_cons_zero, List.set_cons_succ])
      | ((with_reducible refine at_slot 7 ?_); (refine arm_load (o := ⟨some 7, _, _, _, _, _⟩) rfl _ _ rfl X 0 rfl (scs x) ((Has.refl _).range (hv1.old nv2.below)) (Sa.sz_rsta KX.out) ?_); try simp only [Act.put, List.setIfInBounds_toArray, List.set_cons_zero, List.set_cons_succ]))
    have hbv1 := nv1.below
    have rrv1 : Row v1 X 55 (scs x) := hv1
    have hbv2 := nv2.below
    have rrv2 : Row v2 R 32 (u8s zh) := hv2
    have geX : w.heap.size ≤ X := by have := Xe.out; have := bel0.size; omega
    have lXx : w.heap.size ≤ X := by have := Xe.out; omega
    clear hv1 nv1 Xe
    have A_3 : RSAt v1 F S r pin (L) := hC.old hbv1
    have bw3 : Hid (Below w.heap.size w v1) := Lib.hid (below_step bw0.out bw0.out.size hbv1)
    have bel_3 : Chg (fun _ => False) w v1 := bel0.old hbv1
    clear hC bel0 hbv1
    have geR : w.heap.size ≤ R := by have := Re.out; have := bel_3.size; omega
    have ltXR : X < R := by have := Re.out; have := rrv1.lt; omega
    have lRx : v1.heap.size ≤ R := by have := Re.out; omega
    clear hv2 nv2 Re
    have A_4 : RSAt v2 F S r pin (L) := A_3.old hbv2
    have X_4 : Row v2 X 55 (scs x) := rrv1.old hbv2
    have bw4 : Hid (Below w.heap.size w v2) := Lib.hid (below_step bw3.out bw3.out.size hbv2)
    have bel_4 : Chg (fun _ => False) w v2 := bel_3.old hbv2
    clear A_3 rrv1 bel_3 hbv2
    have nX : ¬ F X := fun q => Nat.lt_irrefl _ (Nat.lt_of_lt_of_le (LI.out _ q) geX)
    have nR : ¬ F R := fun q => Nat.lt_irrefl _ (Nat.lt_of_lt_of_le (LI.out _ q) geR)
    refine (CO.out _ (HKW.out _ bw4.out)).mono ?_
    rintro e y5 ⟨rfl, hB⟩
    have A_6 : RSAt y5 F S r pin (L) := A_4.old hB
    have X_6 : Row y5 X 55 (scs x) := X_4.old hB
    have R_6 : Row y5 R 32 (u8s zh) := rrv2.old hB
    have bw6 : Hid (Below w.heap.size w y5) := Lib.hid (below_step bw4.out bw4.out.size hB)
    have bel_6 : Chg (fun _ => False) w y5 := bel_4.old hB
    clear A_4 X_4 rrv2 bel_4 hB
    go_wp2_with (first
      | ((with_reducible refine at_slot 9 ?_); (refine arm_want (.agg (u8s (digS x)).toArray) 9 rfl (by kernel_rfl) (run_op_fieldRK KK.out _ rfl rfl _) ?_); try simp only [Act.put, List.setIfInBounds_toArray, List.set_cons_zero, List.set_cons_succ]))
    refine (CF.out _ F S r pin L (digS x) A_6 KH.out (by have := HL.out; omega)).mono ?_
    rintro e y7 ⟨rfl, hB⟩
    have A_8 : RSAt y7 F S r pin (L) := A_6.old hB
    have X_8 : Row y7 X 55 (scs x) := X_6.old hB
    have R_8 : Row y7 R 32 (u8s zh) := R_6.old hB
    have bw8 : Hid (Below w.heap.size w y7) := Lib.hid (below_step bw6.out bw6.out.size hB)
    have bel_8 : Chg (fun _ => False) w y7 := bel_6.old hB
    clear A_6 X_6 R_6 bel_6 hB
    rw [← HZ.out]
    go_wp2_with (first
      | ((with_reducible refine at_slot 11 ?_); (refine arm_want (.bool true) 11 rfl (by kernel_rfl) (cmp_geq _ _ _ _ rfl .i64 (z) (0) rfl rfl true (dg) _) ?_); try simp only [Act.put, List.setIfInBounds_toArray, List.set_cons_zero, List.set_cons_succ])
      | ((with_reducible refine at_slot 12 ?_); (refine arm_build (o := ⟨some 12, _, _, _, _, _⟩) rfl _ _ rfl (u8s zh) (by kernel_rfl) ?_); try simp only [Act.put, List.setIfInBounds_toArray, List.set_cons_zero, List.set_cons_succ])
      | ((with_reducible refine arm_store (o := ⟨none, _, _, _, _, _⟩) rfl _ _ _ rfl R 0 rfl (u8s zh) rfl _ _ (R_8) (fitH zh_ok) (u8s_one _) (szH zh_ok) ?_); intro y8 hy8 oy8 sy8; try simp only [Act.put, List.setIfInBounds_toArray, List.set_cons_zero, List.set_cons_succ]))
    have hc8 := bel_8.new oy8 geR
    have hA8 := A_8.chg (Chg.of_only (F := fun k => k = R) oy8 rfl) (fun k hk hf => by subst hk; exact nR hf)
    exact bodyPost_ret (result_row2 (p := 4) (u := 5) (ty := 32) (t := 32) (by kernel_rfl) _ _ R (u8s zh) (.bool false) rfl rfl (hy8.congr (allH zh_ok)) (szH zh_ok)) rfl ⟨rfl, ⟨F, hA8, Grew.refl _ _⟩, hc8.more (fun k hk => hk.elim)⟩
  · have HZ := Lib.hid (posI_no hb)
    obtain ⟨q, hq⟩ : ∃ q, q = less digS r pin (ins vK x L) := ⟨_, rfl⟩
    have HQ : Hid (putL r pin x L = q) := Lib.hid (by rw [hq]; exact if_neg hb)
    rw [HQ.out]
    obtain ⟨M, g⟩ := q
    have HE := Lib.hid hq.symm
    have HL1 : Hid ((ins vK x L).length ≤ 1000) := Lib.hid (by rw [ins_len]; omega)
    have KG : Hid (H32 ((g.map digS).getD zh)) := Lib.hid (by cases g with | none => exact zh_ok | some g => exact digS_ok g)
    obtain ⟨d, hd⟩ : ∃ d, d = (g.map digS).getD zh := ⟨_, rfl⟩
    obtain ⟨v, hv⟩ : ∃ v, v = g.isSome := ⟨_, rfl⟩
    have CE : Hid (∀ F1 w0, RSAt w0 F1 S r pin (ins vK x L) → Calls Tryz.prog 28 #[.pointer (some ⟨S, 0, none⟩)] w0 fun e w' => e = .returned (.tuple #[.agg (u8s d).toArray, .bool v]) ∧ (∃ F', RSAt w' F' S r pin M ∧ Grew F1 F' w0.heap.size) ∧ Chg F1 w0 w') := Lib.hid fun F1 w0 h => by rw [hd, hv]; exact less_to w0 h HL1.out H2.out HE.out
    rw [← hd] at KG
    have HR : Hid (∀ w', (∃ F', RSAt w' F' S r pin M ∧ Grew F F' w.heap.size) → Chg F w w' → RPPost w F S r pin (M, g) (.returned (.tuple #[.agg (u8s d).toArray, .bool v])) w') := Lib.hid fun w' h c => ⟨by rw [hd, hv], h, c⟩
    have G0 := Grew.refl F w.heap.size
    clear hk hk1 kx hl hr hb hq hd hv HQ
    go_enter Tryz.func10, Tryz.ntmps10
    have bel0 : Chg F w w := Chg.refl _ _
    have bw0 := Lib.hid (Below.refl w.heap.size w)
    go_wp2_with (first
      | ((with_reducible refine at_slot 3 ?_); (refine arm_box (o := ⟨some 3, _, _, _, _, _⟩) rfl _ _ rfl (scs x) rfl ?_); intro X v1 Xe hv1 nv1; try simp only [Act.put, List.setIfInBounds_toArray, List.set_cons_zero, List.set_cons_succ])
      | ((with_reducible refine at_slot 4 ?_); (refine arm_alloc (o := ⟨some 4, _, _, _, _, _⟩) rfl _ rfl (u8s zh) zH ?_); intro R v2 Re hv2 nv2; try simp only [Act.put, List.setIfInBounds_toArray, List.set_cons_zero, List.set_cons_succ])
      | ((with_reducible refine at_slot 7 ?_); (refine arm_load (o := ⟨some 7, _, _, _, _, _⟩) rfl _ _ rfl X 0 rfl (scs x) ((Has.refl _).range (hv1.old nv2.below)) (Sa.sz_rsta KX.out) ?_); try simp only [Act.put, List.setIfInBounds_toArray, List.set_cons_zero, List.set_cons_succ]))
    have hbv1 := nv1.below
    have rrv1 : Row v1 X 55 (scs x) := hv1
    have hbv2 := nv2.below
    have rrv2 : Row v2 R 32 (u8s zh) := hv2
    have geX : w.heap.size ≤ X := by have := Xe.out; have := bel0.size; omega
    have lXx : w.heap.size ≤ X := by have := Xe.out; omega
    clear hv1 nv1 Xe
    have A_3 : RSAt v1 F S r pin (L) := hC.old hbv1
    have bw3 : Hid (Below w.heap.size w v1) := Lib.hid (below_step bw0.out bw0.out.size hbv1)
    have bel_3 : Chg F w v1 := bel0.old hbv1
    clear hC bel0 hbv1
    have geR : w.heap.size ≤ R := by have := Re.out; have := bel_3.size; omega
    have ltXR : X < R := by have := Re.out; have := rrv1.lt; omega
    have lRx : v1.heap.size ≤ R := by have := Re.out; omega
    clear hv2 nv2 Re
    have A_4 : RSAt v2 F S r pin (L) := A_3.old hbv2
    have X_4 : Row v2 X 55 (scs x) := rrv1.old hbv2
    have bw4 : Hid (Below w.heap.size w v2) := Lib.hid (below_step bw3.out bw3.out.size hbv2)
    have bel_4 : Chg F w v2 := bel_3.old hbv2
    clear A_3 rrv1 bel_3 hbv2
    have nX : ¬ F X := fun q => Nat.lt_irrefl _ (Nat.lt_of_lt_of_le (LI.out _ q) geX)
    have nR : ¬ F R := fun q => Nat.lt_irrefl _ (Nat.lt_of_lt_of_le (LI.out _ q) geR)
    refine (CO.out _ (HKW.out _ bw4.out)).mono ?_
    rintro e y5 ⟨rfl, hB⟩
    have A_6 : RSAt y5 F S r pin (L) := A_4.old hB
    have X_6 : Row y5 X 55 (scs x) := X_4.old hB
    have R_6 : Row y5 R 32 (u8s zh) := rrv2.old hB
    have bw6 : Hid (Below w.heap.size w y5) := Lib.hid (below_step bw4.out bw4.out.size hB)
    have bel_6 : Chg F w y5 := bel_4.old hB
    clear A_4 X_4 rrv2 bel_4 hB
    go_wp2_with (first
      | ((with_reducible refine at_slot 9 ?_); (refine arm_want (.agg (u8s (digS x)).toArray) 9 rfl (by kernel_rfl) (run_op_fieldRK KK.out _ rfl rfl _) ?_); try simp only [Act.put, List.setIfInBounds_toArray, List.set_cons_zero, List.set_cons_succ]))
    refine (CF.out _ F S r pin L (digS x) A_6 KH.out (by have := HL.out; omega)).mono ?_
    rintro e y7 ⟨rfl, hB⟩
    have A_8 : RSAt y7 F S r pin (L) := A_6.old hB
    have X_8 : Row y7 X 55 (scs x) := X_6.old hB
    have R_8 : Row y7 R 32 (u8s zh) := R_6.old hB
    have bw8 : Hid (Below w.heap.size w y7) := Lib.hid (below_step bw6.out bw6.out.size hB)
    have bel_8 : Chg F w y7 := bel_6.old hB
    clear A_6 X_6 R_6 bel_6 hB
    rw [HZ.out]
    go_wp2_with (first
      | ((with_reducible refine at_slot 11 ?_); (refine arm_want (.bool false) 11 rfl (by kernel_rfl) (cmp_geq _ _ _ _ rfl .i64 ((-1)) (0) rfl rfl false (rfl) _) ?_); try simp only [Act.put, List.setIfInBounds_toArray, List.set_cons_zero, List.set_cons_succ])
      | ((with_reducible refine at_slot 14 ?_); (refine arm_load (o := ⟨some 14, _, _, _, _, _⟩) rfl _ _ rfl X 0 rfl (scs x) ((Has.refl _).range X_8) (Sa.sz_rsta KX.out) ?_); try simp only [Act.put, List.setIfInBounds_toArray, List.set_cons_zero, List.set_cons_succ]))
    refine (lay_to x _ A_8 (by have := HL.out; omega) KX.out (HKW.out _ bw8.out)).mono ?_
    rintro e yP9 ⟨rfl, ⟨F1, hA2, hG2⟩, hc⟩
    have mX := notF_grew nX hG2 X_8.lt
    have mR := notF_grew nR hG2 R_8.lt
    have G1 : Grew F F1 w.heap.size := G0.trans hG2 bel_8.size
    have A_10 : RSAt yP9 F1 S r pin (ins vK x L) := hA2
    have X_10 : Row yP9 X 55 (scs x) := X_8.chg hc nX
    have R_10 : Row yP9 R 32 (u8s zh) := R_8.chg hc nR
    have bel_10 : Chg F w yP9 := bel_8.trans hc G0
    clear A_8 X_8 R_8 bel_8 hc
    clear nX
    have nX := mX
    clear mX
    clear nR
    have nR := mR
    clear mR
    clear hG2
    go_wp2_with fail
    refine (CE.out F1 _ A_10).mono ?_
    rintro e yP11 ⟨rfl, ⟨F2, hA2, hG2⟩, hc⟩
    have mX := notF_grew nX hG2 X_10.lt
    have mR := notF_grew nR hG2 R_10.lt
    have G2 : Grew F F2 w.heap.size := G1.trans hG2 bel_10.size
    have A_12 : RSAt yP11 F2 S r pin (M) := hA2
    have X_12 : Row yP11 X 55 (scs x) := X_10.chg hc nX
    have R_12 : Row yP11 R 32 (u8s zh) := R_10.chg hc nR
    have bel_12 : Chg F w yP11 := bel_10.trans hc G1
    clear A_10 X_10 R_10 bel_10 hc
    clear nX
    have nX := mX
    clear mX
    clear nR
    have nR := mR
    clear mR
    clear hG2
    go_wp2_with (first
      | ((with_reducible refine arm_store (o := ⟨none, _, _, _, _, _⟩) rfl _ _ _ rfl R 0 rfl (u8s d) rfl _ _ (R_12) (fitH KG.out) (u8s_one _) (szH KG.out) ?_); intro y9 hy9 oy9 sy9; try simp only [Act.put, List.setIfInBounds_toArray, List.set_cons_zero, List.set_cons_succ]))
    have hc9 := bel_12.new oy9 geR
    have hA9 := A_12.chg (Chg.of_only (F := fun k => k = R) oy9 rfl) (fun k hk hf => by subst hk; exact nR hf)
    exact bodyPost_ret (result_row2 (p := 4) (u := 5) (ty := 32) (t := 32) (by kernel_rfl) _ _ R (u8s d) (.bool v) rfl rfl (hy9.congr (allH KG.out)) (szH KG.out)) rfl (HR.out _ ⟨F2, hA9, G2⟩ hc9)
set_option maxHeartbeats 4000000 in
set_option maxRecDepth 100000 in
theorem rskeep_any (F : Nat → Prop) (S r : Nat) (pin : Option (List Nat)) (L : List Sta) (x : Sta) (w : World) (hC : RSAt w F S r pin L) (hl : L.length ≤ r) (hr : 2 ≤ r ∧ r ≤ 100) (kx : x.Ok) (hk : w.rangeAt 0 0 (u32s ks)) :
    Calls Tryz.prog 14 #[.pointer (some ⟨S, 0, none⟩), .agg (scs x).toArray] w (RPPost w F S r (some (digS x)) (putL r (some (digS x)) x L)) := by
  have hk1 : 0 < w.heap.size := range_lt hk (by simp [u32s, ks])
  have HKW : Hid (∀ w', Below w.heap.size w w' → w'.rangeAt 0 0 (u32s ks)) := Lib.hid fun w' hb => range_block hk (hb.block _ hk1)
  have KX := Lib.hid kx
  have KH := Lib.hid (digS_ok x)
  have KK := Lib.hid (keyN_ok kx)
  have LI := Lib.hid hC.lies
  have CO := Lib.hid (fun w0 h => Od.rof_any x w0 kx h)
  have CF := Lib.hid (fun w0 F S r pin L h q hh hl => rsfind_any F S r pin L h w0 q hh hl)
  have H2 := Lib.hid hr.1
  have HL := Lib.hid (show L.length ≤ 100 by omega)
  obtain ⟨L1, hL1⟩ : ∃ L1, L1 = if hasB (digS x) L = true then L else ins vK x L := ⟨_, rfl⟩
  obtain ⟨q, hq⟩ : ∃ q, q = less digS r (some (digS x)) L1 := ⟨_, rfl⟩
  have HQ : Hid (putL r (some (digS x)) x L = q) := Lib.hid (by
    rw [hq, hL1]
    unfold putL
    by_cases hb : hasB (digS x) L = true
    · rw [if_pos hb, if_pos hb, less_room hl]
    · rw [if_neg hb, if_neg hb])
  rw [HQ.out]
  obtain ⟨M, g⟩ := q
  have HE := Lib.hid hq.symm
  have HN1 : Hid (L1.length ≤ 1000) := Lib.hid (by rw [hL1]; split; omega; rw [ins_len]; omega)
  have HI1 : Hid (hasB (digS x) L1 = true) := Lib.hid (by
    rw [hL1]
    split
    · assumption
    · exact has_true.2 ⟨x, ins_mem.2 (.inl rfl), rfl⟩)
  have KG : Hid (H32 ((g.map digS).getD zh)) := Lib.hid (by cases g with | none => exact zh_ok | some g => exact digS_ok g)
  obtain ⟨d, hd⟩ : ∃ d, d = (g.map digS).getD zh := ⟨_, rfl⟩
  obtain ⟨v, hv⟩ : ∃ v, v = g.isSome := ⟨_, rfl⟩
  have CE : Hid (∀ F1 w0, RSAt w0 F1 S r (some (digS x)) L1 → Calls Tryz.prog 28 #[.pointer (some ⟨S, 0, none⟩)] w0 fun e w' => e = .returned (.tuple #[.agg (u8s d).toArray, .bool v]) ∧ (∃ F', RSAt w' F' S r (some (digS x)) M ∧ Grew F1 F' w0.heap.size) ∧ Chg F1 w0 w') := Lib.hid fun F1 w0 h => by rw [hd, hv]; exact less_to w0 h HN1.out H2.out HE.out
  rw [← hd] at KG
  have HR : Hid (∀ w', (∃ F', RSAt w' F' S r (some (digS x)) M ∧ Grew F F' w.heap.size) → Chg F w w' → RPPost w F S r (some (digS x)) (M, g) (.returned (.tuple #[.agg (u8s d).toArray, .bool v])) w') := Lib.hid fun w' h c => ⟨by rw [hd, hv], h, c⟩
  have G0 := Grew.refl F w.heap.size
  clear hk hk1 kx hl hr hq hd hv HQ
  by_cases hb : hasB (digS x) L = true
  · obtain rfl : L1 = L := by rw [hL1, if_pos hb]
    have dg : decide (posI (L1.map keyN) (digS x) < 0) = false := decide_eq_false (by have := posI_in hb; omega)
    obtain ⟨z, hz⟩ : ∃ z, z = posI (L1.map keyN) (digS x) := ⟨_, rfl⟩
    rw [← hz] at dg
    have HZ := Lib.hid hz
    clear hb hz hL1
    go_enter Tryz.func14, Tryz.ntmps14
    have bel0 : Chg F w w := Chg.refl _ _
    have bw0 := Lib.hid (Below.refl w.heap.size w)
    go_wp2_with (first
      | ((with_reducible refine at_slot 3 ?_); (refine arm_box (o := ⟨some 3, _, _, _, _, _⟩) rfl _ _ rfl (scs x) rfl ?_); intro X v1 Xe hv1 nv1; try simp only [Act.put, List.setIfInBounds_toArray, List.set_cons_zero, List.set_cons_succ])
      | ((with_reducible refine at_slot 4 ?_); (refine arm_alloc (o := ⟨some 4, _, _, _, _, _⟩) rfl _ rfl (u8s zh) zH ?_); intro R v2 Re hv2 nv2; try simp only [Act.put, List.setIfInBounds_toArray, List.set_cons_zero, List.set_cons_succ])
      | ((with_reducible refine at_slot 7 ?_); (refine arm_load (o := ⟨some 7, _, _, _, _, _⟩) rfl _ _ rfl X 0 rfl (scs x) ((Has.refl _).range (hv1.old nv2.below)) (Sa.sz_rsta KX.out) ?_); try simp only [Act.put, List.setIfInBounds_toArray, List.set_cons_zero, List.set_cons_succ]))
    have hbv1 := nv1.below
    have rrv1 : Row v1 X 55 (scs x) := hv1
    have hbv2 := nv2.below
    have rrv2 : Row v2 R 32 (u8s zh) := hv2
    have geX : w.heap.size ≤ X := by have := Xe.out; have := bel0.size; omega
    have lXx : w.heap.size ≤ X := by have := Xe.out; omega
    clear hv1 nv1 Xe
    have A_3 : RSAt v1 F S r pin (L1) := hC.old hbv1
    have bw3 : Hid (Below w.heap.size w v1) := Lib.hid (below_step bw0.out bw0.out.size hbv1)
    have bel_3 : Chg F w v1 := bel0.old hbv1
    clear hC bel0 hbv1
    have geR : w.heap.size ≤ R := by have := Re.out; have := bel_3.size; omega
    have ltXR : X < R := by have := Re.out; have := rrv1.lt; omega
    have lRx : v1.heap.size ≤ R := by have := Re.out; omega
    clear hv2 nv2 Re
    have A_4 : RSAt v2 F S r pin (L1) := A_3.old hbv2
    have X_4 : Row v2 X 55 (scs x) := rrv1.old hbv2
    have bw4 : Hid (Below w.heap.size w v2) := Lib.hid (below_step bw3.out bw3.out.size hbv2)
    have bel_4 : Chg F w v2 := bel_3.old hbv2
    clear A_3 rrv1 bel_3 hbv2
    have nX : ¬ F X := fun q => Nat.lt_irrefl _ (Nat.lt_of_lt_of_le (LI.out _ q) geX)
    have nR : ¬ F R := fun q => Nat.lt_irrefl _ (Nat.lt_of_lt_of_le (LI.out _ q) geR)
    refine (CO.out _ (HKW.out _ bw4.out)).mono ?_
    rintro e y5 ⟨rfl, hB⟩
    have A_6 : RSAt y5 F S r pin (L1) := A_4.old hB
    have X_6 : Row y5 X 55 (scs x) := X_4.old hB
    have R_6 : Row y5 R 32 (u8s zh) := rrv2.old hB
    have bw6 : Hid (Below w.heap.size w y5) := Lib.hid (below_step bw4.out bw4.out.size hB)
    have bel_6 : Chg F w y5 := bel_4.old hB
    clear A_4 X_4 rrv2 bel_4 hB
    go_wp2_with (first
      | ((with_reducible refine at_slot 9 ?_); (refine arm_want (.agg (u8s (digS x)).toArray) 9 rfl (by kernel_rfl) (run_op_fieldRK KK.out _ rfl rfl _) ?_); try simp only [Act.put, List.setIfInBounds_toArray, List.set_cons_zero, List.set_cons_succ])
      | ((with_reducible refine at_slot 6 ?_); (refine arm_alloc (o := ⟨some 6, _, _, _, _, _⟩) rfl _ rfl (u8s zh) zH ?_); intro G v7a Ge hGa nG; try simp only [Act.put, List.setIfInBounds_toArray, List.set_cons_zero, List.set_cons_succ])
      | ((with_reducible refine arm_store (o := ⟨none, _, _, _, _, _⟩) rfl _ _ _ rfl G 0 rfl (u8s (digS x)) rfl _ _ hGa (fitH KH.out) (u8s_one _) (szH KH.out) ?_); intro v7 hGb oG sG; try simp only [Act.put, List.setIfInBounds_toArray, List.set_cons_zero, List.set_cons_succ]; refine fpause ?_; try simp only [Act.put, List.setIfInBounds_toArray, List.set_cons_zero, List.set_cons_succ]))
    have lG : y5.heap.size ≤ G := by have := Ge.out; omega
    have bG : Below y5.heap.size y5 v7 := below_only nG.below oG lG nG.below.size
    have rrG : Row v7 G 32 (u8s (digS x)) := hGb.congr (allH KH.out)
    have geG : w.heap.size ≤ G := Nat.le_trans bel_6.size lG
    have lGx := lG
    clear hGa hGb nG oG sG Ge lG
    have A_8 : RSAt v7 F S r pin (L1) := A_6.old bG
    have X_8 : Row v7 X 55 (scs x) := X_6.old bG
    have R_8 : Row v7 R 32 (u8s zh) := R_6.old bG
    have bw8 : Hid (Below w.heap.size w v7) := Lib.hid (below_step bw6.out bw6.out.size bG)
    have bel_8 : Chg F w v7 := bel_6.old bG
    clear A_6 X_6 R_6 bel_6 bG
    refine fgo ?_
    have nG : ¬ F G := fun q => Nat.lt_irrefl _ (Nat.lt_of_lt_of_le (LI.out _ q) geG)
    go_wp2_with (first
      | ((with_reducible refine at_slot 11 ?_); (refine arm_load (o := ⟨some 11, _, _, _, _, _⟩) rfl _ _ rfl G 0 rfl (u8s (digS x)) ((Has.refl _).range rrG) (szH KH.out) ?_); try simp only [Act.put, List.setIfInBounds_toArray, List.set_cons_zero, List.set_cons_succ]))
    refine (CF.out _ F S r pin L1 (digS x) A_8 KH.out (by have := HL.out; omega)).mono ?_
    rintro e y9 ⟨rfl, hB⟩
    have A_10 : RSAt y9 F S r pin (L1) := A_8.old hB
    have X_10 : Row y9 X 55 (scs x) := X_8.old hB
    have R_10 : Row y9 R 32 (u8s zh) := R_8.old hB
    have G_10 : Row y9 G 32 (u8s (digS x)) := rrG.old hB
    have bw10 : Hid (Below w.heap.size w y9) := Lib.hid (below_step bw8.out bw8.out.size hB)
    have bel_10 : Chg F w y9 := bel_8.old hB
    clear A_8 X_8 R_8 rrG bel_8 hB
    rw [← HZ.out]
    go_wp2_with (first
      | ((with_reducible refine at_slot 13 ?_); (refine arm_want (.bool false) 13 rfl (by kernel_rfl) (cmp_lss _ _ _ _ rfl .i64 (z) (0) rfl rfl false (dg) _) ?_); try simp only [Act.put, List.setIfInBounds_toArray, List.set_cons_zero, List.set_cons_succ])
      | ((with_reducible refine at_slot 18 ?_); (refine arm_load (o := ⟨some 18, _, _, _, _, _⟩) rfl _ _ rfl G 0 rfl (u8s (digS x)) ((Has.refl _).range G_10) (szH KH.out) ?_); try simp only [Act.put, List.setIfInBounds_toArray, List.set_cons_zero, List.set_cons_succ]))
    refine (pinOf_to (v := true) (digS x) _ A_10 KH.out HN1.out HI1.out rfl).mono ?_
    rintro e yP11 ⟨rfl, ⟨F2, hA2, hG2⟩, hc⟩
    have mX := notF_grew nX hG2 X_10.lt
    have mR := notF_grew nR hG2 R_10.lt
    have mG := notF_grew nG hG2 G_10.lt
    have G2 : Grew F F2 w.heap.size := G0.trans hG2 bel_10.size
    have A_12 : RSAt yP11 F2 S r (some (digS x)) (L1) := hA2
    have X_12 : Row yP11 X 55 (scs x) := X_10.chg hc nX
    have R_12 : Row yP11 R 32 (u8s zh) := R_10.chg hc nR
    have G_12 : Row yP11 G 32 (u8s (digS x)) := G_10.chg hc nG
    have bel_12 : Chg F w yP11 := bel_10.trans hc G0
    clear A_10 X_10 R_10 G_10 bel_10 hc
    clear nX
    have nX := mX
    clear mX
    clear nR
    have nR := mR
    clear mR
    clear nG
    have nG := mG
    clear mG
    clear hG2
    go_wp2_with fail
    refine (CE.out F2 _ A_12).mono ?_
    rintro e yP13 ⟨rfl, ⟨F3, hA2, hG2⟩, hc⟩
    have mX := notF_grew nX hG2 X_12.lt
    have mR := notF_grew nR hG2 R_12.lt
    have mG := notF_grew nG hG2 G_12.lt
    have G3 : Grew F F3 w.heap.size := G2.trans hG2 bel_12.size
    have A_14 : RSAt yP13 F3 S r (some (digS x)) (M) := hA2
    have X_14 : Row yP13 X 55 (scs x) := X_12.chg hc nX
    have R_14 : Row yP13 R 32 (u8s zh) := R_12.chg hc nR
    have G_14 : Row yP13 G 32 (u8s (digS x)) := G_12.chg hc nG
    have bel_14 : Chg F w yP13 := bel_12.trans hc G2
    clear A_12 X_12 R_12 G_12 bel_12 hc
    clear nX
    have nX := mX
    clear mX
    clear nR
    have nR := mR
    clear mR
    clear nG
    have nG := mG
    clear mG
    clear hG2
    go_wp2_with (first
      | ((with_reducible refine arm_store (o := ⟨none, _, _, _, _, _⟩) rfl _ _ _ rfl R 0 rfl (u8s d) rfl _ _ (R_14) (fitH KG.out) (u8s_one _) (szH KG.out) ?_); intro y9 hy9 oy9 sy9; try simp only [Act.put, List.setIfInBounds_toArray, List.set_cons_zero, List.set_cons_succ]))
    have hc9 := bel_14.new oy9 geR
    have hA9 := A_14.chg (Chg.of_only (F := fun k => k = R) oy9 rfl) (fun k hk hf => by subst hk; exact nR hf)
    exact bodyPost_ret (result_row2 (p := 4) (u := 5) (ty := 32) (t := 32) (by kernel_rfl) _ _ R (u8s d) (.bool v) rfl rfl (hy9.congr (allH KG.out)) (szH KG.out)) rfl (HR.out _ ⟨F3, hA9, G3⟩ hc9)
  · obtain rfl : L1 = ins vK x L := by rw [hL1, if_neg hb]
    have HZ := Lib.hid (posI_no hb)
    clear hb hL1
    go_enter Tryz.func14, Tryz.ntmps14
    have bel0 : Chg F w w := Chg.refl _ _
    have bw0 := Lib.hid (Below.refl w.heap.size w)
    go_wp2_with (first
      | ((with_reducible refine at_slot 3 ?_); (refine arm_box (o := ⟨some 3, _, _, _, _, _⟩) rfl _ _ rfl (scs x) rfl ?_); intro X v1 Xe hv1 nv1; try simp only [Act.put, List.setIfInBounds_toArray, List.set_cons_zero, List.set_cons_succ])
      | ((with_reducible refine at_slot 4 ?_); (refine arm_alloc (o := ⟨some 4, _, _, _, _, _⟩) rfl _ rfl (u8s zh) zH ?_); intro R v2 Re hv2 nv2; try simp only [Act.put, List.setIfInBounds_toArray, List.set_cons_zero, List.set_cons_succ])
      | ((with_reducible refine at_slot 7 ?_); (refine arm_load (o := ⟨some 7, _, _, _, _, _⟩) rfl _ _ rfl X 0 rfl (scs x) ((Has.refl _).range (hv1.old nv2.below)) (Sa.sz_rsta KX.out) ?_); try simp only [Act.put, List.setIfInBounds_toArray, List.set_cons_zero, List.set_cons_succ]))
    have hbv1 := nv1.below
    have rrv1 : Row v1 X 55 (scs x) := hv1
    have hbv2 := nv2.below
    have rrv2 : Row v2 R 32 (u8s zh) := hv2
    have geX : w.heap.size ≤ X := by have := Xe.out; have := bel0.size; omega
    have lXx : w.heap.size ≤ X := by have := Xe.out; omega
    clear hv1 nv1 Xe
    have A_3 : RSAt v1 F S r pin (L) := hC.old hbv1
    have bw3 : Hid (Below w.heap.size w v1) := Lib.hid (below_step bw0.out bw0.out.size hbv1)
    have bel_3 : Chg F w v1 := bel0.old hbv1
    clear hC bel0 hbv1
    have geR : w.heap.size ≤ R := by have := Re.out; have := bel_3.size; omega
    have ltXR : X < R := by have := Re.out; have := rrv1.lt; omega
    have lRx : v1.heap.size ≤ R := by have := Re.out; omega
    clear hv2 nv2 Re
    have A_4 : RSAt v2 F S r pin (L) := A_3.old hbv2
    have X_4 : Row v2 X 55 (scs x) := rrv1.old hbv2
    have bw4 : Hid (Below w.heap.size w v2) := Lib.hid (below_step bw3.out bw3.out.size hbv2)
    have bel_4 : Chg F w v2 := bel_3.old hbv2
    clear A_3 rrv1 bel_3 hbv2
    have nX : ¬ F X := fun q => Nat.lt_irrefl _ (Nat.lt_of_lt_of_le (LI.out _ q) geX)
    have nR : ¬ F R := fun q => Nat.lt_irrefl _ (Nat.lt_of_lt_of_le (LI.out _ q) geR)
    refine (CO.out _ (HKW.out _ bw4.out)).mono ?_
    rintro e y5 ⟨rfl, hB⟩
    have A_6 : RSAt y5 F S r pin (L) := A_4.old hB
    have X_6 : Row y5 X 55 (scs x) := X_4.old hB
    have R_6 : Row y5 R 32 (u8s zh) := rrv2.old hB
    have bw6 : Hid (Below w.heap.size w y5) := Lib.hid (below_step bw4.out bw4.out.size hB)
    have bel_6 : Chg F w y5 := bel_4.old hB
    clear A_4 X_4 rrv2 bel_4 hB
    go_wp2_with (first
      | ((with_reducible refine at_slot 9 ?_); (refine arm_want (.agg (u8s (digS x)).toArray) 9 rfl (by kernel_rfl) (run_op_fieldRK KK.out _ rfl rfl _) ?_); try simp only [Act.put, List.setIfInBounds_toArray, List.set_cons_zero, List.set_cons_succ])
      | ((with_reducible refine at_slot 6 ?_); (refine arm_alloc (o := ⟨some 6, _, _, _, _, _⟩) rfl _ rfl (u8s zh) zH ?_); intro G v7a Ge hGa nG; try simp only [Act.put, List.setIfInBounds_toArray, List.set_cons_zero, List.set_cons_succ])
      | ((with_reducible refine arm_store (o := ⟨none, _, _, _, _, _⟩) rfl _ _ _ rfl G 0 rfl (u8s (digS x)) rfl _ _ hGa (fitH KH.out) (u8s_one _) (szH KH.out) ?_); intro v7 hGb oG sG; try simp only [Act.put, List.setIfInBounds_toArray, List.set_cons_zero, List.set_cons_succ]; refine fpause ?_; try simp only [Act.put, List.setIfInBounds_toArray, List.set_cons_zero, List.set_cons_succ]))
    have lG : y5.heap.size ≤ G := by have := Ge.out; omega
    have bG : Below y5.heap.size y5 v7 := below_only nG.below oG lG nG.below.size
    have rrG : Row v7 G 32 (u8s (digS x)) := hGb.congr (allH KH.out)
    have geG : w.heap.size ≤ G := Nat.le_trans bel_6.size lG
    have lGx := lG
    clear hGa hGb nG oG sG Ge lG
    have A_8 : RSAt v7 F S r pin (L) := A_6.old bG
    have X_8 : Row v7 X 55 (scs x) := X_6.old bG
    have R_8 : Row v7 R 32 (u8s zh) := R_6.old bG
    have bw8 : Hid (Below w.heap.size w v7) := Lib.hid (below_step bw6.out bw6.out.size bG)
    have bel_8 : Chg F w v7 := bel_6.old bG
    clear A_6 X_6 R_6 bel_6 bG
    refine fgo ?_
    have nG : ¬ F G := fun q => Nat.lt_irrefl _ (Nat.lt_of_lt_of_le (LI.out _ q) geG)
    go_wp2_with (first
      | ((with_reducible refine at_slot 11 ?_); (refine arm_load (o := ⟨some 11, _, _, _, _, _⟩) rfl _ _ rfl G 0 rfl (u8s (digS x)) ((Has.refl _).range rrG) (szH KH.out) ?_); try simp only [Act.put, List.setIfInBounds_toArray, List.set_cons_zero, List.set_cons_succ]))
    refine (CF.out _ F S r pin L (digS x) A_8 KH.out (by have := HL.out; omega)).mono ?_
    rintro e y9 ⟨rfl, hB⟩
    have A_10 : RSAt y9 F S r pin (L) := A_8.old hB
    have X_10 : Row y9 X 55 (scs x) := X_8.old hB
    have R_10 : Row y9 R 32 (u8s zh) := R_8.old hB
    have G_10 : Row y9 G 32 (u8s (digS x)) := rrG.old hB
    have bw10 : Hid (Below w.heap.size w y9) := Lib.hid (below_step bw8.out bw8.out.size hB)
    have bel_10 : Chg F w y9 := bel_8.old hB
    clear A_8 X_8 R_8 rrG bel_8 hB
    rw [HZ.out]
    go_wp2_with (first
      | ((with_reducible refine at_slot 13 ?_); (refine arm_want (.bool true) 13 rfl (by kernel_rfl) (cmp_lss _ _ _ _ rfl .i64 ((-1)) (0) rfl rfl true (rfl) _) ?_); try simp only [Act.put, List.setIfInBounds_toArray, List.set_cons_zero, List.set_cons_succ])
      | ((with_reducible refine at_slot 15 ?_); (refine arm_load (o := ⟨some 15, _, _, _, _, _⟩) rfl _ _ rfl X 0 rfl (scs x) ((Has.refl _).range X_10) (Sa.sz_rsta KX.out) ?_); try simp only [Act.put, List.setIfInBounds_toArray, List.set_cons_zero, List.set_cons_succ]))
    refine (lay_to x _ A_10 (by have := HL.out; omega) KX.out (HKW.out _ bw10.out)).mono ?_
    rintro e yP11 ⟨rfl, ⟨F1, hA2, hG2⟩, hc⟩
    have mX := notF_grew nX hG2 X_10.lt
    have mR := notF_grew nR hG2 R_10.lt
    have mG := notF_grew nG hG2 G_10.lt
    have G1 : Grew F F1 w.heap.size := G0.trans hG2 bel_10.size
    have A_12 : RSAt yP11 F1 S r pin (ins vK x L) := hA2
    have X_12 : Row yP11 X 55 (scs x) := X_10.chg hc nX
    have R_12 : Row yP11 R 32 (u8s zh) := R_10.chg hc nR
    have G_12 : Row yP11 G 32 (u8s (digS x)) := G_10.chg hc nG
    have bel_12 : Chg F w yP11 := bel_10.trans hc G0
    clear A_10 X_10 R_10 G_10 bel_10 hc
    clear nX
    have nX := mX
    clear mX
    clear nR
    have nR := mR
    clear mR
    clear nG
    have nG := mG
    clear mG
    clear hG2
    go_wp2_with (first
      | ((with_reducible refine at_slot 18 ?_); (refine arm_load (o := ⟨some 18, _, _, _, _, _⟩) rfl _ _ rfl G 0 rfl (u8s (digS x)) ((Has.refl _).range G_12) (szH KH.out) ?_); try simp only [Act.put, List.setIfInBounds_toArray, List.set_cons_zero, List.set_cons_succ]))
    refine (pinOf_to (v := true) (digS x) _ A_12 KH.out HN1.out HI1.out rfl).mono ?_
    rintro e yP13 ⟨rfl, ⟨F2, hA2, hG2⟩, hc⟩
    have mX := notF_grew nX hG2 X_12.lt
    have mR := notF_grew nR hG2 R_12.lt
    have mG := notF_grew nG hG2 G_12.lt
    have G2 : Grew F F2 w.heap.size := G1.trans hG2 bel_12.size
    have A_14 : RSAt yP13 F2 S r (some (digS x)) (ins vK x L) := hA2
    have X_14 : Row yP13 X 55 (scs x) := X_12.chg hc nX
    have R_14 : Row yP13 R 32 (u8s zh) := R_12.chg hc nR
    have G_14 : Row yP13 G 32 (u8s (digS x)) := G_12.chg hc nG
    have bel_14 : Chg F w yP13 := bel_12.trans hc G1
    clear A_12 X_12 R_12 G_12 bel_12 hc
    clear nX
    have nX := mX
    clear mX
    clear nR
    have nR := mR
    clear mR
    clear nG
    have nG := mG
    clear mG
    clear hG2
    go_wp2_with fail
    refine (CE.out F2 _ A_14).mono ?_
    rintro e yP15 ⟨rfl, ⟨F3, hA2, hG2⟩, hc⟩
    have mX := notF_grew nX hG2 X_14.lt
    have mR := notF_grew nR hG2 R_14.lt
    have mG := notF_grew nG hG2 G_14.lt
    have G3 : Grew F F3 w.heap.size := G2.trans hG2 bel_14.size
    have A_16 : RSAt yP15 F3 S r (some (digS x)) (M) := hA2
    have X_16 : Row yP15 X 55 (scs x) := X_14.chg hc nX
    have R_16 : Row yP15 R 32 (u8s zh) := R_14.chg hc nR
    have G_16 : Row yP15 G 32 (u8s (digS x)) := G_14.chg hc nG
    have bel_16 : Chg F w yP15 := bel_14.trans hc G2
    clear A_14 X_14 R_14 G_14 bel_14 hc
    clear nX
    have nX := mX
    clear mX
    clear nR
    have nR := mR
    clear mR
    clear nG
    have nG := mG
    clear mG
    clear hG2
    go_wp2_with (first
      | ((with_reducible refine arm_store (o := ⟨none, _, _, _, _, _⟩) rfl _ _ _ rfl R 0 rfl (u8s d) rfl _ _ (R_16) (fitH KG.out) (u8s_one _) (szH KG.out) ?_); intro y9 hy9 oy9 sy9; try simp only [Act.put, List.setIfInBounds_toArray, List.set_cons_zero, List.set_cons_succ]))
    have hc9 := bel_16.new oy9 geR
    have hA9 := A_16.chg (Chg.of_only (F := fun k => k = R) oy9 rfl) (fun k hk hf => by subst hk; exact nR hf)
    exact bodyPost_ret (result_row2 (p := 4) (u := 5) (ty := 32) (t := 32) (by kernel_rfl) _ _ R (u8s d) (.bool v) rfl rfl (hy9.congr (allH KG.out)) (szH KG.out)) rfl (HR.out _ ⟨F3, hA9, G3⟩ hc9)
end Go.Proofs.YtnjmocobncncdaaGreatDoor.So
