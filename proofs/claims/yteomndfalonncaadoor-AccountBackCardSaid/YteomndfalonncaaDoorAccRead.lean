/-
  The contract of package account's Read. Over this seat's translation.
-/
import Derived.Test.YteomndfalonncaaDoorAccLeaf
import Derived.Test.YteomndfalonncaaDoorWireAll
import Derived.Deep.DeepCutAuto
namespace Go.Proofs.YteomndfalonncaaDoor.Ac
open Go.ChangeShapes Go.WideShapes Go.ChangeAt Go.RowKit Go.Proofs.YteomndfalonncaaDoor.Mem Go.Proofs.YteomndfalonncaaDoor.Bt Go.Proofs.YteomndfalonncaaDoor.Wi Go.Proofs.YteomndfalonncaaDoor.Sha
open Go.Proofs.YteomndfalonncaaDoor.Tg (bytesOf bytesOf_length bytesOf_lt bytesOf_inj Rd Rd.below Parts parts_one arm_one tagD tagD_len tagOf_any refTag_any)
open Go.Proofs.YteomndfalonncaaDoor.Ep (H32 zh zh_ok Has h_len szH zH fitH allH)
set_option linter.unusedVariables false
set_option linter.unusedSimpArgs false

/-- What Read leaves. -/
structure ReadPost (w : World) (b : List Nat) (e : Ending) (w' : World) : Prop where
  ret : e = .returned (.tuple #[.agg (acs (rdA b).1).toArray, .int .i64 ((rdA b).2 : Int)])
  bel : Below w.heap.size w w'
theorem rdA_bad {b : List Nat} (h : eR b ≠ 0) : rdA b = (za, eR b) := by unfold rdA; rw [if_pos h]
theorem rdA_form {b : List Nat} (h : eR b = 0) (hc : ¬ NRt (accR b).nm) : rdA b = (za, 2) := by unfold rdA; rw [if_neg (fun g => g h), if_neg hc]
theorem rdA_good {b : List Nat} (h : eR b = 0) (hc : NRt (accR b).nm) : rdA b = (accR b, 0) := by unfold rdA; rw [if_neg (fun g => g h), if_pos hc]
theorem text_left (m : Int) (s : RS) : (textR m s).2.1.length ≤ s.1.length := by
  unfold textR
  split
  · exact Nat.zero_le _
  · exact Nat.le_trans (takeR_left _ _) (takeR_left 1 s)
theorem q_left (b : List Nat) : (q1 b).2.1.length ≤ b.length ∧ (q2 b).2.1.length ≤ b.length := by
  have h1 : (q1 b).2.1.length ≤ b.length := text_left 8 (b, 0)
  have h2 : (q2 b).2.1.length ≤ (q1 b).2.1.length := takeR_left 8 (q1 b).2
  exact ⟨h1, Nat.le_trans h2 h1⟩
set_option maxHeartbeats 4000000 in
set_option maxRecDepth 100000 in
theorem aread_any (b : List Nat) (p : Option Addr) (cap : Nat) (w : World) (hp : Rd w p b) (hn : p = none → b.length = 0 ∧ cap = 0) (hl : b.length ≤ 1000000) (hlt : AllLt 256 b) :
    Calls Tryd.prog 10 #[.slice p b.length cap] w (ReadPost w b) := by
  have CN := Lib.hid (fun w0 (h : Rd w0 p b) => rNew_any b p cap w0 h hn hl hlt)
  have HP := Lib.hid hp
  have hq := q_left b
  have HLT := Lib.hid (q_lt hlt).1
  have CT : Hid (∀ R d w0, RdAt w0 R d (b, 0) → Calls Tryd.prog 25 #[.pointer (some ⟨R, 0, none⟩), .int .i64 8] w0 (TextPost w0 R d (q1 b).1 (q1 b).2)) := Lib.hid fun R d w0 h => rText_any 8 R d (b, 0) w0 h hl
  have CL : Hid (∀ R d w0, RdAt w0 R d (q1 b).2 → Calls Tryd.prog 26 #[.pointer (some ⟨R, 0, none⟩)] w0 (RdPost w0 R d (.int .u64 ((q2 b).1 : Int)) (q2 b).2)) := Lib.hid fun R d w0 h => rLong_any R d (q1 b).2 w0 h (by omega)
  have CM : Hid (∀ R d w0, RdAt w0 R d (q2 b).2 → Calls Tryd.prog 27 #[.pointer (some ⟨R, 0, none⟩)] w0 (RdPost w0 R d (.int .u32 ((q3 b).1 : Int)) (q3 b).2)) := Lib.hid fun R d w0 h => rNum_any R d (q2 b).2 w0 h (by omega)
  have CE : Hid (∀ R d w0, RdAt w0 R d (q3 b).2 → Calls Tryd.prog 28 #[.pointer (some ⟨R, 0, none⟩)] w0 fun e w' => e = .returned (.int .i64 (eR b : Int)) ∧ w0 = w') := Lib.hid fun R d w0 h => rEnd_any R d (q3 b).2 w0 h
  have HA : Hid (accR b = ⟨strOf (q1 b).1, (q2 b).1, (q3 b).1⟩) := Lib.hid rfl
  have CR := Lib.hid (fun w0 => aright_any (accR b) w0)
  have HD : Hid ((eR b ≠ 0 → rdA b = (za, eR b)) ∧ (eR b = 0 → ¬ NRt (accR b).nm → rdA b = (za, 2)) ∧ (eR b = 0 → NRt (accR b).nm → rdA b = (accR b, 0))) := Lib.hid ⟨rdA_bad, rdA_form, rdA_good⟩
  obtain ⟨tb, htb⟩ : ∃ x, x = (q1 b).1 := ⟨_, rfl⟩
  obtain ⟨s1, hs1⟩ : ∃ x, x = (q1 b).2 := ⟨_, rfl⟩
  obtain ⟨u, hu⟩ : ∃ x, x = (q2 b).1 := ⟨_, rfl⟩
  obtain ⟨s2, hs2⟩ : ∃ x, x = (q2 b).2 := ⟨_, rfl⟩
  obtain ⟨m, hm⟩ : ∃ x, x = (q3 b).1 := ⟨_, rfl⟩
  obtain ⟨s3, hs3⟩ : ∃ x, x = (q3 b).2 := ⟨_, rfl⟩
  obtain ⟨a, ha⟩ : ∃ x, x = accR b := ⟨_, rfl⟩
  obtain ⟨ee, hee⟩ : ∃ x, x = eR b := ⟨_, rfl⟩
  rw [← htb, ← hs1] at CT
  rw [← hs1, ← hu, ← hs2] at CL
  rw [← hs2, ← hm, ← hs3] at CM
  rw [← hs3, ← hee] at CE
  rw [← ha, ← htb, ← hu, ← hm] at HA
  rw [← ha] at CR
  rw [← ha, ← hee] at HD
  rw [← htb] at HLT
  have BA : Hid (Tryd.prog.built 25 [(0, .string (strOf tb)), (1, .int .u64 (u : Int)), (2, .int .u32 (m : Int))] = some (acs a).toArray) := Lib.hid (by rw [HA.out]; exact built_acc _ _ _)
  clear hp hn hl hlt hq htb hs1 hu hs2 hm hs3 ha hee HA
  go_enter Tryd.func10, Tryd.ntmps10
  go_wp2_with (first
    | ((with_reducible refine at_slot 2 ?_); (refine arm_alloc (o := ⟨some 2, _, _, _, _, _⟩) rfl _ rfl (acs za) z_acc ?_); intro Z w1 Ze hw1 nw1))
  refine (CN.out w1 (HP.out.below nw1.below)).mono ?_
  rintro e w2 ⟨⟨R, d, rfl, hA2, hR2, hd2⟩, hB2⟩
  have hZ2 := hw1.old hB2
  have bel2 : Below w.heap.size w w2 := below_step nw1.below nw1.below.size hB2
  have hZR : Z ≠ R := by have := Ze.out; have := nw1.size; omega
  have hwR : w.heap.size ≤ R := by have := nw1.below.size; omega
  have hwZ : w.heap.size ≤ Z := by have := Ze.out; omega
  clear hw1 nw1 hB2 hR2 hd2 Ze
  go_wp2_with fail
  go_cut [5] (fun v wx => ∃ N : Nat, v = .pointer (some ⟨N, 0, none⟩) ∧ Row wx N 25 (acs a) ∧ RdAt wx R d s3 ∧ Row wx Z 25 (acs za) ∧ Below w.heap.size w wx ∧ w.heap.size ≤ N ∧ N ≠ Z)
  case first =>
    refine wp_region_held (S := fun w' => True) (by kernel_rfl) ?_
    change wpAnyH _ _ _ _ _ _ _ _ w2.drew
    have hA0 : RdAt w2.drew R d (b, 0) := hA2.old ((Below.refl w2.heap.size w2).drew)
    have hZ0 : Row w2.drew Z 25 (acs za) := hZ2
    have b0 : Below w.heap.size w w2.drew := bel2.trans ((Below.refl _ _).drew)
    generalize w2.drew = y0 at hA0 hZ0 b0 ⊢
    clear hA2 hZ2 bel2
    refine h_take 0 (.pointer (some ⟨R, 0, none⟩)) rfl 9 rfl (by kernel_rfl) (by kernel_rfl) (by kernel_rfl) (by kernel_rfl) (fun _ _ _ h => h) (fun w' _ => by kernel_rfl) True.intro ?_
    simp only [Act.put, List.setIfInBounds_toArray, List.set_cons_zero, List.set_cons_succ]
    refine h_take 3 (.pointer (some ⟨R, 0, none⟩)) rfl 12 rfl (by kernel_rfl) (by kernel_rfl) (by kernel_rfl) (by kernel_rfl) (fun _ _ _ h => h) (fun w' _ => by kernel_rfl) True.intro ?_
    simp only [Act.put, List.setIfInBounds_toArray, List.set_cons_zero, List.set_cons_succ]
    refine h_take 5 (.pointer (some ⟨R, 0, none⟩)) rfl 14 rfl (by kernel_rfl) (by kernel_rfl) (by kernel_rfl) (by kernel_rfl) (fun _ _ _ h => h) (fun w' _ => by kernel_rfl) True.intro ?_
    simp only [Act.put, List.setIfInBounds_toArray, List.set_cons_zero, List.set_cons_succ]
    refine h_two (i := 1) (j := 8) (by kernel_rfl) ?_ ?_
    · skip
      refine (o_call rfl 10 rfl (by kernel_rfl) (run_op_call 25 _ _ rfl #[.pointer (some ⟨R, 0, none⟩), .int .i64 8] (by simp only [List.map_toArray, List.map_cons, List.map_nil]; rfl) Tryd.func25 (by kernel_rfl) (by kernel_rfl) _) (CT.out R d _ hA0) ?_)
      rintro e y1 ⟨⟨q, c, rfl, hr1⟩, hA1, hO⟩
      have hZ1 := hZ0.only hO hZR
      have b1 : Below w.heap.size w y1 := below_only b0 hO hwR b0.size
      clear hO
      refine ⟨_, rfl, True.intro, ?_⟩
      simp only [Act.put, List.setIfInBounds_toArray, List.set_cons_zero, List.set_cons_succ]
      refine h_more (S' := fun w' => Rd w' q tb) (fun _ _ => True.intro) _ _ _ _ ?_
      refine h_take 2 (.string (strOf tb)) rfl 11 rfl (by kernel_rfl) (by kernel_rfl) (by kernel_rfl) (by kernel_rfl) (fun _ _ _ h => h) (fun w' hw => run_op_toStr _ _ 5 _ rfl (by kernel_rfl) (by kernel_rfl) (by kernel_rfl) q tb.length c tb rfl rfl hw.at_ HLT.out) hr1 ?_
      simp only [Act.put, List.setIfInBounds_toArray, List.set_cons_zero, List.set_cons_succ]
      refine h_two (i := 4) (j := 8) (by kernel_rfl) ?_ ?_
      · skip
        refine (o_call rfl 13 rfl (by kernel_rfl) (run_op_call 26 _ _ rfl #[.pointer (some ⟨R, 0, none⟩)] (by simp only [List.map_toArray, List.map_cons, List.map_nil]; rfl) Tryd.func26 (by kernel_rfl) (by kernel_rfl) _) (CL.out R d _ hA1) ?_)
        rintro e y2 ⟨rfl, hA2, hO⟩
        have hZ2 := hZ1.only hO hZR
        have b2 : Below w.heap.size w y2 := below_only b1 hO hwR b1.size
        have hr2 := hA1.keep_rd hO hr1
        clear hO
        refine ⟨_, rfl, hr2, ?_⟩
        simp only [Act.put, List.setIfInBounds_toArray, List.set_cons_zero, List.set_cons_succ]
        refine h_two (i := 6) (j := 8) (by kernel_rfl) ?_ ?_
        · skip
          refine (o_call rfl 15 rfl (by kernel_rfl) (run_op_call 27 _ _ rfl #[.pointer (some ⟨R, 0, none⟩)] (by simp only [List.map_toArray, List.map_cons, List.map_nil]; rfl) Tryd.func27 (by kernel_rfl) (by kernel_rfl) _) (CM.out R d _ hA2) ?_)
          rintro e y3 ⟨rfl, hA3, hO⟩
          have hZ3 := hZ2.only hO hZR
          have b3 : Below w.heap.size w y3 := below_only b2 hO hwR b2.size
          have hr3 := hA2.keep_rd hO hr2
          clear hO
          refine ⟨_, rfl, hr3, ?_⟩
          simp only [Act.put, List.setIfInBounds_toArray, List.set_cons_zero, List.set_cons_succ]
          refine h_take 7 (.agg (acs a).toArray) rfl 16 rfl (by kernel_rfl) (by kernel_rfl) (by kernel_rfl) (by kernel_rfl) (fun _ _ _ h => h) (fun w' hw => run_op_build _ _ rfl (acs a) (by simp only [List.map_toArray, List.map_cons, List.map_nil]; exact BA.out) w') hr3 ?_
          simp only [Act.put, List.setIfInBounds_toArray, List.set_cons_zero, List.set_cons_succ]
          refine h_one (i := 8) (by kernel_rfl) (o_value _ rfl 5 rfl (by kernel_rfl) (run_op_alloc _ rfl (acs za) z_acc) ?_)
          have hN4 := new_alloc y3 (.cells (acs za).toArray 25)
          have rN4 : Row (y3.alloc (.cells (acs za).toArray 25)) y3.heap.size 25 (acs za) := heap_alloc_new _ _
          have lN := b3.size; have lR := hA3.row_lt; have ld := hA3.dlt; have lZ := hZ3.lt
          generalize y3.alloc (.cells (acs za).toArray 25) = y4 at hN4 rN4 ⊢
          have hA4 := hA3.old hN4.below; have hZ4 := hZ3.old hN4.below
          have b4 : Below w.heap.size w y4 := below_step b3 b3.size hN4.below
          have hr4 := hr3.below hN4.below
          clear hN4
          refine ⟨hr4, ?_⟩
          generalize y3.heap.size = N at rN4 lN lR ld lZ ⊢
          have nNR : N ≠ R := by omega
          have nNd : N ≠ d := by omega
          have nNZ : N ≠ Z := by omega
          simp only [Act.put, List.setIfInBounds_toArray, List.set_cons_zero, List.set_cons_succ]
          refine h_one (i := 9) (by kernel_rfl) (o_skip rfl rfl (by kernel_rfl) (run_op_store _ _ _ rfl N 0 rfl (acs a) rfl _ _ rN4 (fitA a) (acs_one a) (sz_acc a)) ?_)
          have rf := row_setRow rN4 (lay (acs za) 0 (acs a))
          have of := Only.setRow N y4 (lay (acs za) 0 (acs a)).toArray
          generalize y4.setRow N (lay (acs za) 0 (acs a)).toArray = yf at rf of ⊢
          have hAf : RdAt yf R d s3 := hA4.other of (Ne.symm nNR) (Ne.symm nNd)
          have hZf := hZ4.only of (Ne.symm nNZ)
          have bf : Below w.heap.size w yf := below_only b4 of lN b4.size
          have hrf : Rd yf q tb := Rd_only hr4 rN4 (acs_no za) of
          refine ⟨hrf, ?_⟩
          refine wpAnyH_done (by kernel_rfl) ?_ _
          go_wp2_with fail
          go_meet
          exact ⟨N, rfl, rf.congr (allA a), hAf, hZf, bf, lN, nNZ⟩
        · skip
          refine (o_value _ rfl 5 rfl (by kernel_rfl) (run_op_alloc _ rfl (acs za) z_acc) ?_)
          have hN6 := new_alloc y2 (.cells (acs za).toArray 25)
          have rN6 : Row (y2.alloc (.cells (acs za).toArray 25)) y2.heap.size 25 (acs za) := heap_alloc_new _ _
          have lN := b2.size; have lR := hA2.row_lt; have ld := hA2.dlt; have lZ := hZ2.lt
          generalize y2.alloc (.cells (acs za).toArray 25) = y6 at hN6 rN6 ⊢
          have hA6 := hA2.old hN6.below; have hZ6 := hZ2.old hN6.below
          have b6 : Below w.heap.size w y6 := below_step b2 b2.size hN6.below
          have hr6 := hr2.below hN6.below
          clear hN6
          refine ⟨hr6, ?_⟩
          generalize y2.heap.size = N at rN6 lN lR ld lZ ⊢
          have nNR : N ≠ R := by omega
          have nNd : N ≠ d := by omega
          have nNZ : N ≠ Z := by omega
          simp only [Act.put, List.setIfInBounds_toArray, List.set_cons_zero, List.set_cons_succ]
          refine h_one (i := 6) (by kernel_rfl) (o_call rfl 15 rfl (by kernel_rfl) (run_op_call 27 _ _ rfl #[.pointer (some ⟨R, 0, none⟩)] (by simp only [List.map_toArray, List.map_cons, List.map_nil]; rfl) Tryd.func27 (by kernel_rfl) (by kernel_rfl) _) (CM.out R d _ hA6) ?_)
          rintro e y7 ⟨rfl, hA7, hO⟩
          have hZ7 := hZ6.only hO hZR
          have b7 : Below w.heap.size w y7 := below_only b6 hO hwR b6.size
          have rN7 := rN6.only hO nNR
          have hr7 := hA6.keep_rd hO hr6
          clear hO
          refine ⟨_, rfl, hr7, ?_⟩
          simp only [Act.put, List.setIfInBounds_toArray, List.set_cons_zero, List.set_cons_succ]
          refine h_take 7 (.agg (acs a).toArray) rfl 16 rfl (by kernel_rfl) (by kernel_rfl) (by kernel_rfl) (by kernel_rfl) (fun _ _ _ h => h) (fun w' hw => run_op_build _ _ rfl (acs a) (by simp only [List.map_toArray, List.map_cons, List.map_nil]; exact BA.out) w') hr7 ?_
          simp only [Act.put, List.setIfInBounds_toArray, List.set_cons_zero, List.set_cons_succ]
          refine h_one (i := 9) (by kernel_rfl) (o_skip rfl rfl (by kernel_rfl) (run_op_store _ _ _ rfl N 0 rfl (acs a) rfl _ _ rN7 (fitA a) (acs_one a) (sz_acc a)) ?_)
          have rf := row_setRow rN7 (lay (acs za) 0 (acs a))
          have of := Only.setRow N y7 (lay (acs za) 0 (acs a)).toArray
          generalize y7.setRow N (lay (acs za) 0 (acs a)).toArray = yf at rf of ⊢
          have hAf : RdAt yf R d s3 := hA7.other of (Ne.symm nNR) (Ne.symm nNd)
          have hZf := hZ7.only of (Ne.symm nNZ)
          have bf : Below w.heap.size w yf := below_only b7 of lN b7.size
          have hrf : Rd yf q tb := Rd_only hr7 rN7 (acs_no za) of
          refine ⟨hrf, ?_⟩
          refine wpAnyH_done (by kernel_rfl) ?_ _
          go_wp2_with fail
          go_meet
          exact ⟨N, rfl, rf.congr (allA a), hAf, hZf, bf, lN, nNZ⟩
      · skip
        refine (o_value _ rfl 5 rfl (by kernel_rfl) (run_op_alloc _ rfl (acs za) z_acc) ?_)
        have hN9 := new_alloc y1 (.cells (acs za).toArray 25)
        have rN9 : Row (y1.alloc (.cells (acs za).toArray 25)) y1.heap.size 25 (acs za) := heap_alloc_new _ _
        have lN := b1.size; have lR := hA1.row_lt; have ld := hA1.dlt; have lZ := hZ1.lt
        generalize y1.alloc (.cells (acs za).toArray 25) = y9 at hN9 rN9 ⊢
        have hA9 := hA1.old hN9.below; have hZ9 := hZ1.old hN9.below
        have b9 : Below w.heap.size w y9 := below_step b1 b1.size hN9.below
        have hr9 := hr1.below hN9.below
        clear hN9
        refine ⟨hr9, ?_⟩
        generalize y1.heap.size = N at rN9 lN lR ld lZ ⊢
        have nNR : N ≠ R := by omega
        have nNd : N ≠ d := by omega
        have nNZ : N ≠ Z := by omega
        simp only [Act.put, List.setIfInBounds_toArray, List.set_cons_zero, List.set_cons_succ]
        refine h_one (i := 4) (by kernel_rfl) (o_call rfl 13 rfl (by kernel_rfl) (run_op_call 26 _ _ rfl #[.pointer (some ⟨R, 0, none⟩)] (by simp only [List.map_toArray, List.map_cons, List.map_nil]; rfl) Tryd.func26 (by kernel_rfl) (by kernel_rfl) _) (CL.out R d _ hA9) ?_)
        rintro e y10 ⟨rfl, hA10, hO⟩
        have hZ10 := hZ9.only hO hZR
        have b10 : Below w.heap.size w y10 := below_only b9 hO hwR b9.size
        have rN10 := rN9.only hO nNR
        have hr10 := hA9.keep_rd hO hr9
        clear hO
        refine ⟨_, rfl, hr10, ?_⟩
        simp only [Act.put, List.setIfInBounds_toArray, List.set_cons_zero, List.set_cons_succ]
        refine h_one (i := 6) (by kernel_rfl) (o_call rfl 15 rfl (by kernel_rfl) (run_op_call 27 _ _ rfl #[.pointer (some ⟨R, 0, none⟩)] (by simp only [List.map_toArray, List.map_cons, List.map_nil]; rfl) Tryd.func27 (by kernel_rfl) (by kernel_rfl) _) (CM.out R d _ hA10) ?_)
        rintro e y11 ⟨rfl, hA11, hO⟩
        have hZ11 := hZ10.only hO hZR
        have b11 : Below w.heap.size w y11 := below_only b10 hO hwR b10.size
        have rN11 := rN10.only hO nNR
        have hr11 := hA10.keep_rd hO hr10
        clear hO
        refine ⟨_, rfl, hr11, ?_⟩
        simp only [Act.put, List.setIfInBounds_toArray, List.set_cons_zero, List.set_cons_succ]
        refine h_take 7 (.agg (acs a).toArray) rfl 16 rfl (by kernel_rfl) (by kernel_rfl) (by kernel_rfl) (by kernel_rfl) (fun _ _ _ h => h) (fun w' hw => run_op_build _ _ rfl (acs a) (by simp only [List.map_toArray, List.map_cons, List.map_nil]; exact BA.out) w') hr11 ?_
        simp only [Act.put, List.setIfInBounds_toArray, List.set_cons_zero, List.set_cons_succ]
        refine h_one (i := 9) (by kernel_rfl) (o_skip rfl rfl (by kernel_rfl) (run_op_store _ _ _ rfl N 0 rfl (acs a) rfl _ _ rN11 (fitA a) (acs_one a) (sz_acc a)) ?_)
        have rf := row_setRow rN11 (lay (acs za) 0 (acs a))
        have of := Only.setRow N y11 (lay (acs za) 0 (acs a)).toArray
        generalize y11.setRow N (lay (acs za) 0 (acs a)).toArray = yf at rf of ⊢
        have hAf : RdAt yf R d s3 := hA11.other of (Ne.symm nNR) (Ne.symm nNd)
        have hZf := hZ11.only of (Ne.symm nNZ)
        have bf : Below w.heap.size w yf := below_only b11 of lN b11.size
        have hrf : Rd yf q tb := Rd_only hr11 rN11 (acs_no za) of
        refine ⟨hrf, ?_⟩
        refine wpAnyH_done (by kernel_rfl) ?_ _
        go_wp2_with fail
        go_meet
        exact ⟨N, rfl, rf.congr (allA a), hAf, hZf, bf, lN, nNZ⟩
    · skip
      refine (o_value _ rfl 5 rfl (by kernel_rfl) (run_op_alloc _ rfl (acs za) z_acc) ?_)
      have hN13 := new_alloc y0 (.cells (acs za).toArray 25)
      have rN13 : Row (y0.alloc (.cells (acs za).toArray 25)) y0.heap.size 25 (acs za) := heap_alloc_new _ _
      have lN := b0.size; have lR := hA0.row_lt; have ld := hA0.dlt; have lZ := hZ0.lt
      generalize y0.alloc (.cells (acs za).toArray 25) = y13 at hN13 rN13 ⊢
      have hA13 := hA0.old hN13.below; have hZ13 := hZ0.old hN13.below
      have b13 : Below w.heap.size w y13 := below_step b0 b0.size hN13.below
      clear hN13
      refine ⟨True.intro, ?_⟩
      generalize y0.heap.size = N at rN13 lN lR ld lZ ⊢
      have nNR : N ≠ R := by omega
      have nNd : N ≠ d := by omega
      have nNZ : N ≠ Z := by omega
      simp only [Act.put, List.setIfInBounds_toArray, List.set_cons_zero, List.set_cons_succ]
      refine h_one (i := 1) (by kernel_rfl) (o_call rfl 10 rfl (by kernel_rfl) (run_op_call 25 _ _ rfl #[.pointer (some ⟨R, 0, none⟩), .int .i64 8] (by simp only [List.map_toArray, List.map_cons, List.map_nil]; rfl) Tryd.func25 (by kernel_rfl) (by kernel_rfl) _) (CT.out R d _ hA13) ?_)
      rintro e y14 ⟨⟨q, c, rfl, hr14⟩, hA14, hO⟩
      have hZ14 := hZ13.only hO hZR
      have b14 : Below w.heap.size w y14 := below_only b13 hO hwR b13.size
      have rN14 := rN13.only hO nNR
      clear hO
      refine ⟨_, rfl, True.intro, ?_⟩
      simp only [Act.put, List.setIfInBounds_toArray, List.set_cons_zero, List.set_cons_succ]
      refine h_more (S' := fun w' => Rd w' q tb) (fun _ _ => True.intro) _ _ _ _ ?_
      refine h_take 2 (.string (strOf tb)) rfl 11 rfl (by kernel_rfl) (by kernel_rfl) (by kernel_rfl) (by kernel_rfl) (fun _ _ _ h => h) (fun w' hw => run_op_toStr _ _ 5 _ rfl (by kernel_rfl) (by kernel_rfl) (by kernel_rfl) q tb.length c tb rfl rfl hw.at_ HLT.out) hr14 ?_
      simp only [Act.put, List.setIfInBounds_toArray, List.set_cons_zero, List.set_cons_succ]
      refine h_one (i := 4) (by kernel_rfl) (o_call rfl 13 rfl (by kernel_rfl) (run_op_call 26 _ _ rfl #[.pointer (some ⟨R, 0, none⟩)] (by simp only [List.map_toArray, List.map_cons, List.map_nil]; rfl) Tryd.func26 (by kernel_rfl) (by kernel_rfl) _) (CL.out R d _ hA14) ?_)
      rintro e y15 ⟨rfl, hA15, hO⟩
      have hZ15 := hZ14.only hO hZR
      have b15 : Below w.heap.size w y15 := below_only b14 hO hwR b14.size
      have rN15 := rN14.only hO nNR
      have hr15 := hA14.keep_rd hO hr14
      clear hO
      refine ⟨_, rfl, hr15, ?_⟩
      simp only [Act.put, List.setIfInBounds_toArray, List.set_cons_zero, List.set_cons_succ]
      refine h_one (i := 6) (by kernel_rfl) (o_call rfl 15 rfl (by kernel_rfl) (run_op_call 27 _ _ rfl #[.pointer (some ⟨R, 0, none⟩)] (by simp only [List.map_toArray, List.map_cons, List.map_nil]; rfl) Tryd.func27 (by kernel_rfl) (by kernel_rfl) _) (CM.out R d _ hA15) ?_)
      rintro e y16 ⟨rfl, hA16, hO⟩
      have hZ16 := hZ15.only hO hZR
      have b16 : Below w.heap.size w y16 := below_only b15 hO hwR b15.size
      have rN16 := rN15.only hO nNR
      have hr16 := hA15.keep_rd hO hr15
      clear hO
      refine ⟨_, rfl, hr16, ?_⟩
      simp only [Act.put, List.setIfInBounds_toArray, List.set_cons_zero, List.set_cons_succ]
      refine h_take 7 (.agg (acs a).toArray) rfl 16 rfl (by kernel_rfl) (by kernel_rfl) (by kernel_rfl) (by kernel_rfl) (fun _ _ _ h => h) (fun w' hw => run_op_build _ _ rfl (acs a) (by simp only [List.map_toArray, List.map_cons, List.map_nil]; exact BA.out) w') hr16 ?_
      simp only [Act.put, List.setIfInBounds_toArray, List.set_cons_zero, List.set_cons_succ]
      refine h_one (i := 9) (by kernel_rfl) (o_skip rfl rfl (by kernel_rfl) (run_op_store _ _ _ rfl N 0 rfl (acs a) rfl _ _ rN16 (fitA a) (acs_one a) (sz_acc a)) ?_)
      have rf := row_setRow rN16 (lay (acs za) 0 (acs a))
      have of := Only.setRow N y16 (lay (acs za) 0 (acs a)).toArray
      generalize y16.setRow N (lay (acs za) 0 (acs a)).toArray = yf at rf of ⊢
      have hAf : RdAt yf R d s3 := hA16.other of (Ne.symm nNR) (Ne.symm nNd)
      have hZf := hZ16.only of (Ne.symm nNZ)
      have bf : Below w.heap.size w yf := below_only b16 of lN b16.size
      have hrf : Rd yf q tb := Rd_only hr16 rN16 (acs_no za) of
      refine ⟨hrf, ?_⟩
      refine wpAnyH_done (by kernel_rfl) ?_ _
      go_wp2_with fail
      go_meet
      exact ⟨N, rfl, rf.congr (allA a), hAf, hZf, bf, lN, nNZ⟩
  case rest =>
    obtain ⟨N, rfl, rN, hA, hZ, bel, lN, nNZ⟩ := hcut
    clear hA2 hZ2 bel2 CT CL CM CN HP BA HLT
    by_cases he : ee = 0
    · have hz : ((ee : Int) != 0) = false := by rw [he]; rfl
      have hz' : ((ee : Int) == 0) = true := by rw [he]; rfl
      have HE := Lib.hid he
      clear he
      by_cases hr : NRt a.nm
      · rw [decide_eq_true hr] at CR
        have HQ := Lib.hid (HD.out.2.2 HE.out hr)
        clear hr HD
        go_wp2_with fail
        refine (CE.out R d _ hA).mono ?_
        rintro e w3 ⟨rfl, rfl⟩
        go_wp2_with (first
          | ((with_reducible refine at_slot 23 ?_); (refine arm_load (o := ⟨some 23, _, _, _, _, _⟩) rfl _ _ rfl N 0 rfl (acs a) ((Has.refl _).range rN) (sz_acc a) ?_)))
        refine (CR.out _).mono ?_
        rintro e w4 ⟨rfl, hB4⟩
        have rN4 := rN.old hB4
        have hZ4 := hZ.old hB4
        have bel4 : Below w.heap.size w w4 := below_step bel bel.size hB4
        clear rN hZ hB4 hA
        go_wp2_with (first
          | ((with_reducible refine at_slot 27 ?_); (refine arm_load (o := ⟨some 27, _, _, _, _, _⟩) rfl _ _ rfl N 0 rfl (acs a) ((Has.refl _).range rN4) (sz_acc a) ?_))
          | ((with_reducible refine arm_store (o := ⟨none, _, _, _, _, _⟩) rfl _ _ _ rfl Z 0 rfl (acs a) rfl _ _ (hZ4) (fitA a) (acs_one a) (sz_acc a) ?_); intro w9 hw9 ow9 sw9))
        refine bodyPost_ret (result_row2 (p := 2) (u := 3) (ty := 25) (t := 25) (by kernel_rfl) _ _ Z (acs a) (.int .i64 0) rfl rfl (hw9.congr (allA a)) (sz_acc a)) rfl ⟨by rw [HQ.out]; rfl, below_only bel4 ow9 hwZ bel4.size⟩
      · rw [decide_eq_false hr] at CR
        have HQ := Lib.hid (HD.out.2.1 HE.out hr)
        clear hr HD
        go_wp2_with fail
        refine (CE.out R d _ hA).mono ?_
        rintro e w3 ⟨rfl, rfl⟩
        go_wp2_with (first
          | ((with_reducible refine at_slot 23 ?_); (refine arm_load (o := ⟨some 23, _, _, _, _, _⟩) rfl _ _ rfl N 0 rfl (acs a) ((Has.refl _).range rN) (sz_acc a) ?_)))
        refine (CR.out _).mono ?_
        rintro e w4 ⟨rfl, hB4⟩
        have hZ4 := hZ.old hB4
        have bel4 : Below w.heap.size w w4 := below_step bel bel.size hB4
        clear rN hZ hB4 hA
        go_wp2_with (first
          | ((with_reducible refine at_slot 26 ?_); (refine arm_build (o := ⟨some 26, _, _, _, _, _⟩) rfl _ _ rfl (acs za) (by simp only [List.map_toArray, List.map_nil]; exact built_za) ?_))
          | ((with_reducible refine arm_store (o := ⟨none, _, _, _, _, _⟩) rfl _ _ _ rfl Z 0 rfl (acs za) rfl _ _ (hZ4) (fitA za) (acs_one za) (sz_acc za) ?_); intro w9 hw9 ow9 sw9))
        refine bodyPost_ret (result_row2 (p := 2) (u := 3) (ty := 25) (t := 25) (by kernel_rfl) _ _ Z (acs za) (.int .i64 2) rfl rfl (hw9.congr (allA za)) (sz_acc za)) rfl ⟨by rw [HQ.out]; rfl, below_only bel4 ow9 hwZ bel4.size⟩
    · have hz : ((ee : Int) != 0) = true := by simp; omega
      have hz' : ((ee : Int) == 0) = false := beq_eq_false_iff_ne.2 (by omega)
      have HQ := Lib.hid (HD.out.1 he)
      clear he HD
      obtain ⟨z, hzz⟩ : ∃ z : Int, z = (ee : Int) := ⟨_, rfl⟩
      rw [← hzz] at CE hz hz'
      have HZ := Lib.hid hzz
      clear hzz
      go_wp2_with fail
      refine (CE.out R d _ hA).mono ?_
      rintro e w3 ⟨rfl, rfl⟩
      go_wp2_with (first
        | ((with_reducible refine at_slot 21 ?_); (refine arm_build (o := ⟨some 21, _, _, _, _, _⟩) rfl _ _ rfl (acs za) (by simp only [List.map_toArray, List.map_nil]; exact built_za) ?_))
        | ((with_reducible refine arm_store (o := ⟨none, _, _, _, _, _⟩) rfl _ _ _ rfl Z 0 rfl (acs za) rfl _ _ (hZ) (fitA za) (acs_one za) (sz_acc za) ?_); intro w9 hw9 ow9 sw9))
      refine bodyPost_ret (result_row2 (p := 2) (u := 3) (ty := 25) (t := 25) (by kernel_rfl) _ _ Z (acs za) (.int .i64 z) rfl rfl (hw9.congr (allA za)) (sz_acc za)) rfl ⟨by rw [HQ.out, HZ.out], below_only bel ow9 hwZ bel.size⟩
end Go.Proofs.YteomndfalonncaaDoor.Ac
