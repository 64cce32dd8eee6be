/-
  The contracts of package tree's Set, Drop, Get and Len. Over this seat's translation.
-/
import Derived.Test.YtpebadhknpohkaaDoorTreNew
namespace Go.Proofs.YtpebadhknpohkaaDoor.Tr
open Go.ChangeShapes Go.WideShapes Go.ChangeAt Go.RowKit Go.Proofs.YtpebadhknpohkaaDoor.Mem Go.Proofs.YtpebadhknpohkaaDoor.Bt Go.Proofs.YtpebadhknpohkaaDoor.Wi Go.Proofs.YtpebadhknpohkaaDoor.Sha Go.Proofs.YtpebadhknpohkaaDoor.Ac Go.Proofs.YtpebadhknpohkaaDoor.Im
open Go.Proofs.YtpebadhknpohkaaDoor.Tg (bytesOf bytesOf_length bytesOf_lt bytesOf_inj Rd Rd.below Parts parts_one arm_one tagD tagD_len tagOf_any refTag_any total)
open Go.Proofs.YtpebadhknpohkaaDoor.Ep (H32 zh zh_ok Has h_len szH zH fitH allH came_at)
set_option linter.unusedVariables false
set_option linter.unusedSimpArgs false

theorem cell_old {w w' : World} {B : Nat} {v : Value} (h : w.cell? ⟨B, 0, none⟩ = some v) (hb : Below w.heap.size w w') : w'.cell? ⟨B, 0, none⟩ = some v := by
  rw [World.cell?_of_block (w := w) (a := ⟨B, 0, none⟩) (hb.block B (block_lt_of_cell h))]
  exact h
structure SetPost (w : World) (B mb : Nat) (t : Tree) (p : Int) (a : Acct) (e : Ending) (w' : World) : Prop where
  ret : e = .returned (.int .i64 (setE p a : Int))
  tr : TrAt w' B mb (setR t p a)
  ow : Only mb w w'
structure DropPost (w : World) (B mb : Nat) (t : Tree) (p : Int) (e : Ending) (w' : World) : Prop where
  ret : e = .returned (.bool (atI t p).isSome)
  tr : TrAt w' B mb (dropR t p)
  ow : Only mb w w'
structure GetPost (w : World) (t : Tree) (p : Int) (e : Ending) (w' : World) : Prop where
  ret : e = .returned (.tuple #[.agg (acs ((atI t p).getD za)).toArray, .bool (atI t p).isSome])
  bel : Below w.heap.size w w'
set_option maxHeartbeats 4000000 in
set_option maxRecDepth 100000 in
theorem set_any (B mb : Nat) (t : Tree) (p : Int) (a : Acct) (w : World) (ht : TrAt w B mb t) (hp : Is64 p) :
    Calls Tryd.prog 24 #[.pointer (some ⟨B, 0, none⟩), .int .i64 p, .agg (acs a).toArray] w (SetPost w B mb t p a) := by
  have CT := Lib.hid (fun w0 => there_any p w0)
  have CR := Lib.hid (fun w0 => aright_any a w0)
  by_cases hin : 0 ≤ p ∧ p < 16
  · rw [decide_eq_true hin] at CT
    by_cases hr : NRt a.nm
    · rw [decide_eq_true hr] at CR
      have hs : SetOk p a := ⟨hin, hr⟩
      have HE : Hid (setE p a = 0) := Lib.hid (by unfold setE; rw [if_pos hs])
      have HT : Hid (setM t p.toNat (some a) = setR t p a) := Lib.hid (by unfold setR; rw [if_pos hs]; rfl)
      obtain ⟨k, hk⟩ : ∃ k : Nat, p = (k : Int) := ⟨p.toNat, by omega⟩
      subst hk
      have HP := Lib.hid hp
      have KA := Lib.hid (sz_acc a)
      have HV : Hid (Value.agg (acs a).toArray = VA a) := Lib.hid rfl
      have e0 : ((k : Int)).toNat = k := Int.toNat_natCast k
      rw [e0] at HT
      clear hs hin hr hp e0
      go_enter Tryd.func24, Tryd.ntmps24
      go_wp2_with (first
        | ((with_reducible refine at_slot 5 ?_); (refine arm_box (o := ⟨some 5, _, _, _, _, _⟩) rfl _ _ rfl (acs a) rfl ?_); intro X v1 Xe hv1 nv1))
      have hbv1 := nv1.below
      have rrv1 : Row v1 X 36 (acs a) := hv1
      have geX : w.heap.size ≤ X := by have := Xe.out; omega
      clear hv1 nv1 Xe
      have T_2 : TrAt v1 B mb t := ht.old hbv1
      have bel_2 : Below w.heap.size w v1 := hbv1
      clear ht hbv1
      go_wp2_with fail
      refine (CT.out _).mono ?_
      rintro e z3 ⟨rfl, rfl⟩
      go_wp2_with (first
        | ((with_reducible refine at_slot 11 ?_); (refine arm_want (.agg (acs a).toArray) 11 rfl (by kernel_rfl) (run_op_load _ _ rfl X 0 rfl (acs a) ((Has.refl _).range rrv1) KA.out) ?_)))
      refine (CR.out _).mono ?_
      rintro e y4 ⟨rfl, hB⟩
      have T_5 : TrAt y4 B mb t := T_2.old hB
      have X_5 : Row y4 X 36 (acs a) := rrv1.old hB
      have bel_5 : Below w.heap.size w y4 := below_step bel_2 bel_2.size hB
      clear T_2 rrv1 bel_2 hB
      go_wp2_with fail
      have hC := T_5.c0
      refine wp_region_held (S := fun w' => Row w' X 36 (acs a) ∧ w'.cell? ⟨B, 0, none⟩ = some (.map (some mb)) ∧ True) (by kernel_rfl) ?_
      change wpAnyH _ _ _ _ _ _ _ _ y4.drew
      have hd6 : Below y4.heap.size y4 y4.drew := (Below.refl _ _).drew
      have T_7 : TrAt y4.drew B mb t := T_5.old hd6
      have X_7 : Row y4.drew X 36 (acs a) := X_5.old hd6
      have C_7 : y4.drew.cell? ⟨B, 0, none⟩ = some (.map (some mb)) := cell_old hC hd6
      have bel_7 : Below w.heap.size w y4.drew := below_step bel_5 bel_5.size hd6
      clear T_5 X_5 hC bel_5 hd6
      generalize y4.drew = yz6 at T_7 X_7 C_7 bel_7 ⊢
      refine h_take 0 (.pointer (some ⟨B, 0, none⟩)) rfl 15 rfl (by kernel_rfl) (by kernel_rfl) (by kernel_rfl) (by kernel_rfl) (fun _ _ _ h => h) (fun w' _ => by kernel_rfl) ⟨X_7, C_7, trivial⟩ ?_
      simp only [Act.put, List.setIfInBounds_toArray, List.set_cons_zero, List.set_cons_succ]
      refine h_take 1 (.pointer (some ⟨B, 0, none⟩)) rfl 16 rfl (by kernel_rfl) (by kernel_rfl) (by kernel_rfl) (by kernel_rfl) (fun _ _ _ h => h) (fun w' _ => by kernel_rfl) ⟨X_7, C_7, trivial⟩ ?_
      simp only [Act.put, List.setIfInBounds_toArray, List.set_cons_zero, List.set_cons_succ]
      refine h_take 2 (.pointer (some ⟨B, 0, none⟩)) rfl 17 rfl (by kernel_rfl) (by kernel_rfl) (by kernel_rfl) (by kernel_rfl) (fun _ _ _ h => h) (fun w' _ => by kernel_rfl) ⟨X_7, C_7, trivial⟩ ?_
      simp only [Act.put, List.setIfInBounds_toArray, List.set_cons_zero, List.set_cons_succ]
      refine h_take 3 (.map (some mb)) rfl 18 rfl (by kernel_rfl) (by kernel_rfl) (by kernel_rfl) (by kernel_rfl) (fun _ _ _ h => h) (fun w' hw => run_op_load1 _ _ rfl (.map 3 36) und_map rfl ⟨B, 0, none⟩ rfl _ hw.2.1) ⟨X_7, C_7, trivial⟩ ?_
      simp only [Act.put, List.setIfInBounds_toArray, List.set_cons_zero, List.set_cons_succ]
      refine h_take 4 (.int .i64 (k : Int)) rfl 19 rfl (by kernel_rfl) (by kernel_rfl) (by kernel_rfl) (by kernel_rfl) (fun _ _ _ h => h) (fun w' _ => by kernel_rfl) ⟨X_7, C_7, trivial⟩ ?_
      simp only [Act.put, List.setIfInBounds_toArray, List.set_cons_zero, List.set_cons_succ]
      refine h_take 5 (.agg (acs a).toArray) rfl 20 rfl (by kernel_rfl) (by kernel_rfl) (by kernel_rfl) (by kernel_rfl) (fun _ _ _ h => h) (fun w' hw => run_op_load _ _ rfl X (0) rfl (acs a) (((Has.refl _)).range hw.1) (KA.out)) ⟨X_7, C_7, trivial⟩ ?_
      simp only [Act.put, List.setIfInBounds_toArray, List.set_cons_zero, List.set_cons_succ]
      have hBm := T_7.ne
      refine h_one (i := 6) (by kernel_rfl) (o_updateI rfl rfl (by kernel_rfl) _ _ _ _ rfl rfl k rfl a HV.out (T_7.map) und_int und_map HP.out ?_)
      intro y hm2 how hsz
      rw [HT.out] at hm2
      have rT : TrAt y B mb (setR t (k : Int) a) := ⟨T_7.row.only how (Ne.symm hBm), hm2⟩
      refine ⟨⟨X_7.only how (Ne.symm (T_7.map.row X_7)), rT.c0, trivial⟩, ?_⟩
      have hO : Only mb w y := (Only.of_below mb bel_7).trans how
      clear T_7 X_7 C_7 bel_7 how hm2 hsz
      refine wpAnyH_done (by kernel_rfl) ?_ _
      go_wp2_with fail
      go_ret
      exact ⟨by rw [HE.out]; rfl, rT, hO⟩
    · rw [decide_eq_false hr] at CR
      have hs : ¬ SetOk p a := fun h => hr h.2
      have HE : Hid (setE p a = 1) := Lib.hid (by unfold setE; rw [if_neg hs])
      have HT : Hid (t = setR t p a) := Lib.hid (by unfold setR; rw [if_neg hs])
      have KA := Lib.hid (sz_acc a)
      clear hs hin hr hp
      go_enter Tryd.func24, Tryd.ntmps24
      go_wp2_with (first
        | ((with_reducible refine at_slot 5 ?_); (refine arm_box (o := ⟨some 5, _, _, _, _, _⟩) rfl _ _ rfl (acs a) rfl ?_); intro X v1 Xe hv1 nv1))
      have hbv1 := nv1.below
      have rrv1 : Row v1 X 36 (acs a) := hv1
      have geX : w.heap.size ≤ X := by have := Xe.out; omega
      clear hv1 nv1 Xe
      have T_2 : TrAt v1 B mb t := ht.old hbv1
      have bel_2 : Below w.heap.size w v1 := hbv1
      clear ht hbv1
      go_wp2_with fail
      refine (CT.out _).mono ?_
      rintro e z3 ⟨rfl, rfl⟩
      go_wp2_with (first
        | ((with_reducible refine at_slot 11 ?_); (refine arm_want (.agg (acs a).toArray) 11 rfl (by kernel_rfl) (run_op_load _ _ rfl X 0 rfl (acs a) ((Has.refl _).range rrv1) KA.out) ?_)))
      refine (CR.out _).mono ?_
      rintro e y4 ⟨rfl, hB⟩
      have T_5 : TrAt y4 B mb t := T_2.old hB
      have X_5 : Row y4 X 36 (acs a) := rrv1.old hB
      have bel_5 : Below w.heap.size w y4 := below_step bel_2 bel_2.size hB
      clear T_2 rrv1 bel_2 hB
      go_wp2_with fail
      go_ret
      exact ⟨by rw [HE.out]; rfl, T_5.congr HT.out, Only.of_below mb bel_5⟩
  · rw [decide_eq_false hin] at CT
    have hs : ¬ SetOk p a := fun h => hin h.1
    have HE : Hid (setE p a = 1) := Lib.hid (by unfold setE; rw [if_neg hs])
    have HT : Hid (t = setR t p a) := Lib.hid (by unfold setR; rw [if_neg hs])
    have KA := Lib.hid (sz_acc a)
    clear hs hin hp
    go_enter Tryd.func24, Tryd.ntmps24
    go_wp2_with (first
      | ((with_reducible refine at_slot 5 ?_); (refine arm_box (o := ⟨some 5, _, _, _, _, _⟩) rfl _ _ rfl (acs a) rfl ?_); intro X v1 Xe hv1 nv1))
    have hbv1 := nv1.below
    have rrv1 : Row v1 X 36 (acs a) := hv1
    have geX : w.heap.size ≤ X := by have := Xe.out; omega
    clear hv1 nv1 Xe
    have T_2 : TrAt v1 B mb t := ht.old hbv1
    have bel_2 : Below w.heap.size w v1 := hbv1
    clear ht hbv1
    go_wp2_with fail
    refine (CT.out _).mono ?_
    rintro e z3 ⟨rfl, rfl⟩
    go_wp2_with fail
    go_ret
    exact ⟨by rw [HE.out]; rfl, T_2.congr HT.out, Only.of_below mb bel_2⟩
set_option maxHeartbeats 4000000 in
set_option maxRecDepth 100000 in
theorem drop_any (B mb : Nat) (t : Tree) (p : Int) (w : World) (ht : TrAt w B mb t) (hp : Is64 p) :
    Calls Tryd.prog 25 #[.pointer (some ⟨B, 0, none⟩), .int .i64 p] w (DropPost w B mb t p) := by
  have HP := Lib.hid hp
  obtain ⟨x, hx⟩ : ∃ x, x = (atI t p).getD za := ⟨_, rfl⟩
  obtain ⟨b, hb⟩ : ∃ b, b = (atI t p).isSome := ⟨_, rfl⟩
  have HV : Hid ((if true then Value.tuple #[valO (VA za) VA (atI t p), .bool (atI t p).isSome] else valO (VA za) VA (atI t p)) = .tuple #[.agg (acs x).toArray, .bool b]) := Lib.hid (by rw [if_pos rfl, val_acc, ← hx, ← hb])
  have HX := Lib.hid hx; have HB := Lib.hid hb
  have KX := Lib.hid (sz_acc x)
  have hc0 := ht.c0
  clear hp hx hb
  go_enter Tryd.func25, Tryd.ntmps25
  go_wp2_with (first
    | ((with_reducible refine at_slot 13 ?_); (refine arm_lookupI (o := ⟨some 13, _, _, _, _, _⟩) rfl _ _ _ true rfl rfl p rfl ht.map und_int und_map (VA za) (zero_acc _) HP.out (.tuple #[.agg (acs x).toArray, .bool b]) HV.out ?_))
    | ((with_reducible refine at_slot 5 ?_); (refine arm_alloc (o := ⟨some 5, _, _, _, _, _⟩) rfl _ rfl (acs za) z_acc ?_); intro R v2 Re hv2 nv2)
    | ((with_reducible refine arm_store (o := ⟨none, _, _, _, _, _⟩) rfl _ _ _ rfl R 0 rfl (acs x) rfl _ _ hv2 (fitA x) (acs_one x) KX.out ?_); intro v3 hv3 ov3 sv3; have b3 := below_only nv2.below ov3 (by have := Re.out; omega) nv2.below.size; have ht3 := ht.old b3; have hc3 := ht3.c0)
    | ((with_reducible refine arm_deleteI (o := ⟨none, _, _, _, _, _⟩) rfl _ _ _ _ rfl rfl p rfl ht3.map und_int und_map HP.out ?_); intro y hm2 how hsz))
  go_ret
  exact ⟨by rw [HB.out]; rfl, ⟨ht3.row.only how (Ne.symm ht3.ne), hm2⟩, (Only.of_below mb b3).trans how⟩
set_option maxHeartbeats 4000000 in
set_option maxRecDepth 100000 in
theorem get_any (B mb : Nat) (t : Tree) (p : Int) (w : World) (ht : TrAt w B mb t) (hp : Is64 p) :
    Calls Tryd.prog 15 #[.pointer (some ⟨B, 0, none⟩), .int .i64 p] w (GetPost w t p) := by
  have HP := Lib.hid hp
  obtain ⟨x, hx⟩ : ∃ x, x = (atI t p).getD za := ⟨_, rfl⟩
  obtain ⟨b, hb⟩ : ∃ b, b = (atI t p).isSome := ⟨_, rfl⟩
  have HV : Hid ((if true then Value.tuple #[valO (VA za) VA (atI t p), .bool (atI t p).isSome] else valO (VA za) VA (atI t p)) = .tuple #[.agg (acs x).toArray, .bool b]) := Lib.hid (by rw [if_pos rfl, val_acc, ← hx, ← hb])
  have HX := Lib.hid hx; have HB := Lib.hid hb
  have KX := Lib.hid (sz_acc x)
  have hc0 := ht.c0
  clear hp hx hb
  go_enter Tryd.func15, Tryd.ntmps15
  have hm := ht.map
  have htl := ht
  go_wp2_with (first
    | ((with_reducible refine at_slot 4 ?_); (refine arm_alloc (o := ⟨some 4, _, _, _, _, _⟩) rfl _ rfl (acs za) z_acc ?_); intro Z v1 Ze hv1 nv1; have hc1 := (ht.old nv1.below).c0; have hm1 := (ht.old nv1.below).map)
    | ((with_reducible refine at_slot 14 ?_); (refine arm_lookupI (o := ⟨some 14, _, _, _, _, _⟩) rfl _ _ _ true rfl rfl p rfl hm1 und_int und_map (VA za) (zero_acc _) HP.out (.tuple #[.agg (acs x).toArray, .bool b]) HV.out ?_))
    | ((with_reducible refine at_slot 6 ?_); (refine arm_alloc (o := ⟨some 6, _, _, _, _, _⟩) rfl _ rfl (acs za) z_acc ?_); intro R v2 Re hv2 nv2)
    | ((with_reducible refine arm_store (o := ⟨none, _, _, _, _, _⟩) rfl _ _ _ rfl R 0 rfl (acs x) rfl _ _ hv2 (fitA x) (acs_one x) KX.out ?_); intro v3 hv3 ov3 sv3)
    | ((with_reducible refine at_slot 17 ?_); (refine arm_load (o := ⟨some 17, _, _, _, _, _⟩) rfl _ _ rfl R 0 rfl (acs x) ((Has.refl _).range (hv3.congr (allA x))) KX.out ?_))
    | ((with_reducible refine arm_store (o := ⟨none, _, _, _, _, _⟩) rfl _ _ _ rfl Z 0 rfl (acs x) rfl _ _ ((hv1.old nv2.below).only ov3 (by have := Re.out; have := hv1.lt; omega)) (fitA x) (acs_one x) KX.out ?_); intro v4 hv4 ov4 sv4))
  have q1 := Ze.out; have q2 := Re.out; have q3 := nv1.size; have q4 := nv2.size
  have b2 : Below w.heap.size w v2 := below_step nv1.below (by omega) nv2.below
  have b3 : Below w.heap.size w v3 := below_only b2 ov3 (by omega) b2.size
  have b4 : Below w.heap.size w v4 := below_only b3 ov4 (by omega) b3.size
  refine bodyPost_ret (result_row2 (p := 4) (u := 5) (ty := 36) (t := 36) (by kernel_rfl) _ _ Z (acs x) (.bool b) rfl rfl (hv4.congr (allA x)) KX.out) rfl ⟨by rw [HX.out, HB.out], b4⟩
set_option maxHeartbeats 4000000 in
set_option maxRecDepth 100000 in
theorem len_any (B mb : Nat) (t : Tree) (w : World) (ht : TrAt w B mb t) (hg : Good t) :
    Calls Tryd.prog 13 #[.pointer (some ⟨B, 0, none⟩)] w fun e w' => e = .returned (.int .i64 (cntM t 16 : Int)) ∧ Below w.heap.size w w' := by
  have HN : Hid (∀ k a, t k = some a → k < 16) := Lib.hid fun k a h => (hg k a h).1
  have hc0 := ht.c0
  clear hg
  go_enter Tryd.func13, Tryd.ntmps13
  go_wp2_with (first
    | ((with_reducible refine at_slot 7 ?_); (refine arm_lenI (o := ⟨some 7, _, _, _, _, _⟩) rfl _ _ rfl rfl ht.map und_map 16 HN.out ?_)))
  go_ret
  exact ⟨rfl, Below.refl _ _⟩
end Go.Proofs.YtpebadhknpohkaaDoor.Tr
