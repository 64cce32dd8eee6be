/-
  The contracts of package proof's node.image and leafImage: the bytes that are digested on a way. Over this seat's translation.
-/
import Derived.Test.YtaihhbiocolhcaaDoorPrfBytes
namespace Go.Proofs.YtaihhbiocolhcaaDoor.Pf
open Go.ChangeShapes Go.WideShapes Go.ChangeAt Go.RowKit Go.Proofs.YtaihhbiocolhcaaDoor.Mem Go.Proofs.YtaihhbiocolhcaaDoor.Bt Go.Proofs.YtaihhbiocolhcaaDoor.Wi Go.Proofs.YtaihhbiocolhcaaDoor.Sha Go.Proofs.YtaihhbiocolhcaaDoor.Ac Go.Proofs.YtaihhbiocolhcaaDoor.Tr
open Go.Proofs.YtaihhbiocolhcaaDoor.Tg (bytesOf bytesOf_length bytesOf_lt bytesOf_inj Rd Rd.below Parts parts_one arm_one tagD tagD_len tagOf_any refTag_any total image image_inj image_length img_short)
open Go.Proofs.YtaihhbiocolhcaaDoor.Ep (H32 zh zh_ok Has h_len szH zH fitH allH came_at one_app)
set_option linter.unusedVariables false
set_option linter.unusedSimpArgs false

structure CmPost (w : World) (bs : List Nat) (e : Ending) (w' : World) : Prop where
  ex : ∃ p cap, e = .returned (.slice p bs.length cap) ∧ Came w' p cap bs
  bel : Below w.heap.size w w'
/-- A node's image. -/
def imgN (h : Nat) (l r : List Nat) : List Nat := image (bytesOf nameN) [[h], l, r]
def imgA (a : Acct) : List Nat := image (bytesOf nameA) [accB a]
theorem imgN_lt {h : Nat} {l r : List Nat} (hh : h < 256) (kl : H32 l) (kr : H32 r) : AllLt 256 (imgN h l r) :=
  Tg.image_lt _ _ (by decide) (by simp) (bytesOf_lt _) (fun b hb => by
    simp only [List.mem_cons, List.not_mem_nil, or_false] at hb
    rcases hb with rfl | rfl | rfl
    · intro x hx; rw [List.mem_singleton.1 hx]; exact hh
    · exact kl.lt
    · exact kr.lt)
theorem imgA_lt {a : Acct} (h : a.nm.size ≤ 255) : AllLt 256 (imgA a) :=
  Tg.image_lt _ _ (by decide) (by simp) (bytesOf_lt _) (fun b hb => by rw [List.mem_singleton.1 hb]; exact accB_lt h)
theorem imgN_len {h : Nat} {l r : List Nat} (kl : H32 l) (kr : H32 r) : (imgN h l r).length = 83 := by
  unfold imgN
  rw [image_length]
  simp [total, kl.len, kr.len, nameN, bytesOf]
theorem imgA_len (a : Acct) : (imgA a).length = 26 + a.nm.size := by
  unfold imgA
  rw [image_length]
  simp [total, accB_len, nameA, bytesOf]
  omega
theorem imgK_zero (p : Nat) (L : List (List Nat)) (a : Acct) : imgK p L a 0 = imgA a := rfl
theorem imgK_succ (p : Nat) (L : List (List Nat)) (a : Acct) (k : Nat) : imgK p L a (k + 1) = imgN (k + 1) (lft p k (leadK p L (digA a) k) (L.getD k [])) (rgt p k (leadK p L (digA a) k) (L.getD k [])) := by
  show image (bytesOf nameN) (partsK p k _ _) = _
  rw [parts_lr]
  rfl
set_option maxHeartbeats 4000000 in
set_option maxRecDepth 100000 in
theorem nimg_any (h : Nat) (l r d : List Nat) (w : World) (hh : h < 256) (kl : H32 l) (kr : H32 r) (kd : H32 d) :
    Calls Tryd.prog 40 #[.agg (ncs h l r d).toArray] w (CmPost w (imgN h l r)) := by
  have KL := Lib.hid kl; have KR := Lib.hid kr
  have SN := Lib.hid (sz_node (h := h) kl kr kd)
  have HW : Hid (IntKind.u8.wrap (h : Int) = (h : Int)) := Lib.hid (by rw [IntKind.wrap_u8]; omega)
  have HH := Lib.hid hh
  have CI := Lib.hid (fun P w0 (hp : Parts w0 P [[h], l, r]) => Tg.img_short nameN [[h], l, r] P 3 w0 (by decide) (by simp) (by simp [total, kl.len, kr.len]) hp)
  have HLT := Lib.hid (imgN_lt hh kl kr)
  have HI : Hid (image (bytesOf nameN) [[h], l, r] = imgN h l r) := Lib.hid rfl
  clear hh kl kr kd
  generalize imgN h l r = bs at HLT HI ⊢
  go_enter Tryd.func40, Tryd.ntmps40
  go_wp2_with (first
    | ((with_reducible refine at_slot 1 ?_); (refine arm_box (o := ⟨some 1, _, _, _, _, _⟩) rfl _ _ rfl (ncs h l r d) rfl ?_); intro N v1 Ne hv1 nv1; try simp only [Act.put, List.setIfInBounds_toArray, List.set_cons_zero, List.set_cons_succ]))
  have hbv1 := nv1.below
  have rrv1 : Row v1 N 74 (ncs h l r d) := hv1
  have geN : w.heap.size ≤ N := by have := Ne.out; omega
  clear hv1 nv1 Ne
  have bel_2 : Below w.heap.size w v1 := hbv1
  clear hbv1
  refine wp_region_held (S := fun w' => Row w' N 74 (ncs h l r d) ∧ True) (by kernel_rfl) ?_
  change wpAnyH _ _ _ _ _ _ _ _ v1.drew
  have hd3 : Below v1.heap.size v1 v1.drew := (Below.refl _ _).drew
  have N_4 : Row v1.drew N 74 (ncs h l r d) := rrv1.old hd3
  have bel_4 : Below w.heap.size w v1.drew := below_step bel_2 bel_2.size hd3
  clear rrv1 bel_2 hd3
  generalize v1.drew = yz3 at N_4 bel_4 ⊢
  refine h_take 0 (.pointer (some ⟨N, 0, none⟩)) rfl 6 rfl (by kernel_rfl) (by kernel_rfl) (by kernel_rfl) (by kernel_rfl) (fun _ _ _ h => h) (fun w' _ => by kernel_rfl) ⟨N_4, trivial⟩ ?_
  simp only [Act.put, List.setIfInBounds_toArray, List.set_cons_zero, List.set_cons_succ]
  refine h_take 1 (.int .i64 (h : Int)) rfl 7 rfl (by kernel_rfl) (by kernel_rfl) (by kernel_rfl) (by kernel_rfl) (fun _ _ _ h => h) (fun w' hw => run_op_load1 _ _ rfl (.int .i64) (by kernel_rfl) rfl ⟨N, 0, none⟩ rfl _ (hw.1.cell rfl)) ⟨N_4, trivial⟩ ?_
  simp only [Act.put, List.setIfInBounds_toArray, List.set_cons_zero, List.set_cons_succ]
  refine h_take 2 (.int .u8 (h : Int)) rfl 8 rfl (by kernel_rfl) (by kernel_rfl) (by kernel_rfl) (by kernel_rfl) (fun _ _ _ h => h) (fun w' _ => run_op_conv8 _ rfl _ _ rfl HW.out w') ⟨N_4, trivial⟩ ?_
  simp only [Act.put, List.setIfInBounds_toArray, List.set_cons_zero, List.set_cons_succ]
  refine h_take 4 (.pointer (some ⟨N, 1, none⟩)) rfl 10 rfl (by kernel_rfl) (by kernel_rfl) (by kernel_rfl) (by kernel_rfl) (fun _ _ _ h => h) (fun w' _ => by kernel_rfl) ⟨N_4, trivial⟩ ?_
  simp only [Act.put, List.setIfInBounds_toArray, List.set_cons_zero, List.set_cons_succ]
  refine h_take 5 (.slice (some ⟨N, 1, none⟩) 32 32) rfl 11 rfl (by kernel_rfl) (by kernel_rfl) (by kernel_rfl) (by kernel_rfl) (fun _ _ _ h => h) (fun w' _ => run_op_sliceAll _ _ rfl 32 5 (by kernel_rfl) (by kernel_rfl) N 1 rfl (by omega) w') ⟨N_4, trivial⟩ ?_
  simp only [Act.put, List.setIfInBounds_toArray, List.set_cons_zero, List.set_cons_succ]
  refine h_take 6 (.pointer (some ⟨N, 33, none⟩)) rfl 12 rfl (by kernel_rfl) (by kernel_rfl) (by kernel_rfl) (by kernel_rfl) (fun _ _ _ h => h) (fun w' _ => by kernel_rfl) ⟨N_4, trivial⟩ ?_
  simp only [Act.put, List.setIfInBounds_toArray, List.set_cons_zero, List.set_cons_succ]
  refine h_take 7 (.slice (some ⟨N, 33, none⟩) 32 32) rfl 13 rfl (by kernel_rfl) (by kernel_rfl) (by kernel_rfl) (by kernel_rfl) (fun _ _ _ h => h) (fun w' _ => run_op_sliceAll _ _ rfl 32 5 (by kernel_rfl) (by kernel_rfl) N 33 rfl (by omega) w') ⟨N_4, trivial⟩ ?_
  simp only [Act.put, List.setIfInBounds_toArray, List.set_cons_zero, List.set_cons_succ]
  refine h_one (i := 3) (by kernel_rfl) (o_value _ rfl 9 rfl (by kernel_rfl) (run_op_byte _ rfl _ rfl _) ?_)
  have hNy5 := (new_alloc yz3 (.cells #[.int .u8 (h : Int)] 5)).below
  have rNy5 : Row (yz3.alloc (.cells #[.int .u8 (h : Int)] 5)) yz3.heap.size 5 (u8s [h]) := heap_alloc_new _ _
  have geQ : w.heap.size ≤ yz3.heap.size := bel_4.size
  generalize yz3.alloc (.cells #[.int .u8 (h : Int)] 5) = y5 at hNy5 rNy5 ⊢
  have N_6 : Row y5 N 74 (ncs h l r d) := N_4.old hNy5
  have bel_6 : Below w.heap.size w y5 := below_step bel_4 bel_4.size hNy5
  clear N_4 bel_4 hNy5
  generalize yz3.heap.size = Q at rNy5 geQ ⊢
  refine ⟨⟨N_6, trivial⟩, ?_⟩
  simp only [Act.put, List.setIfInBounds_toArray, List.set_cons_zero, List.set_cons_succ]
  refine h_one (i := 8) (by kernel_rfl) (o_value _ rfl 14 rfl (by kernel_rfl) (run_op_three _ _ _ rfl (some ⟨Q, 0, none⟩) (some ⟨N, 1, none⟩) (some ⟨N, 33, none⟩) 1 32 32 1 32 32 rfl rfl rfl _) ?_)
  have hNy7 := (new_alloc y5 (.cells #[.slice (some ⟨Q, 0, none⟩) 1 1, .slice (some ⟨N, 1, none⟩) 32 32, .slice (some ⟨N, 33, none⟩) 32 32] 30)).below
  have rNy7 : Row (y5.alloc (.cells #[.slice (some ⟨Q, 0, none⟩) 1 1, .slice (some ⟨N, 1, none⟩) 32 32, .slice (some ⟨N, 33, none⟩) 32 32] 30)) y5.heap.size 30 ([.slice (some ⟨Q, 0, none⟩) 1 1, .slice (some ⟨N, 1, none⟩) 32 32, .slice (some ⟨N, 33, none⟩) 32 32]) := heap_alloc_new _ _
  have geZ : w.heap.size ≤ y5.heap.size := bel_6.size
  generalize y5.alloc (.cells #[.slice (some ⟨Q, 0, none⟩) 1 1, .slice (some ⟨N, 1, none⟩) 32 32, .slice (some ⟨N, 33, none⟩) 32 32] 30) = y7 at hNy7 rNy7 ⊢
  have N_8 : Row y7 N 74 (ncs h l r d) := N_6.old hNy7
  have Q_8 : Row y7 Q 5 (u8s [h]) := rNy5.old hNy7
  have bel_8 : Below w.heap.size w y7 := below_step bel_6 bel_6.size hNy7
  clear N_6 rNy5 bel_6 hNy7
  generalize y5.heap.size = Z at rNy7 geZ ⊢
  refine ⟨⟨N_8, trivial⟩, ?_⟩
  simp only [Act.put, List.setIfInBounds_toArray, List.set_cons_zero, List.set_cons_succ]
  have hpt : Parts y7 (some ⟨Z, 0, none⟩) [[h], l, r] := parts_three rNy7 (came_byte Q_8 HH.out) (came_at ((n_l h l r d).range N_8) KL.out) (came_at ((n_r KL.out).range N_8) KR.out) KL.out KR.out
  have CT := CI.out _ _ hpt
  clear hpt
  refine h_one (i := 9) (by kernel_rfl) (o_call rfl 15 rfl (by kernel_rfl) (run_op_call 52 _ _ rfl #[.string nameN, .slice (some ⟨Z, 0, none⟩) 3 3] (by simp only [List.map_toArray, List.map_cons, List.map_nil]; rfl) Tryd.func52 (by kernel_rfl) (by kernel_rfl) _) (CT) ?_)
  rintro e y9 ⟨⟨q, c, rfl, hO⟩, hB⟩
  have N_10 : Row y9 N 74 (ncs h l r d) := N_8.old hB
  have Q_10 : Row y9 Q 5 (u8s [h]) := Q_8.old hB
  have Z_10 : Row y9 Z 30 ([.slice (some ⟨Q, 0, none⟩) 1 1, .slice (some ⟨N, 1, none⟩) 32 32, .slice (some ⟨N, 33, none⟩) 32 32]) := rNy7.old hB
  have bel_10 : Below w.heap.size w y9 := below_step bel_8 bel_8.size hB
  clear N_8 Q_8 rNy7 bel_8 hB
  refine ⟨_, rfl, ⟨N_10, trivial⟩, ?_⟩
  simp only [Act.put, List.setIfInBounds_toArray, List.set_cons_zero, List.set_cons_succ]
  rw [HI.out] at hO
  clear CT
  refine h_take 10 (.tuple #[.slice q (image (bytesOf nameN) [[h], l, r]).length c, .int .i64 0]) rfl 5 rfl (by kernel_rfl) (by kernel_rfl) (by kernel_rfl) (by kernel_rfl) (fun _ _ _ h => h) (fun w' _ => by kernel_rfl) ⟨N_10, trivial⟩ ?_
  simp only [Act.put, List.setIfInBounds_toArray, List.set_cons_zero, List.set_cons_succ]
  refine h_take 11 (.slice q (image (bytesOf nameN) [[h], l, r]).length c) rfl 16 rfl (by kernel_rfl) (by kernel_rfl) (by kernel_rfl) (by kernel_rfl) (fun _ _ _ h => h) (fun w' _ => by kernel_rfl) ⟨N_10, trivial⟩ ?_
  simp only [Act.put, List.setIfInBounds_toArray, List.set_cons_zero, List.set_cons_succ]
  refine h_take 12 (.int .i64 0) rfl 17 rfl (by kernel_rfl) (by kernel_rfl) (by kernel_rfl) (by kernel_rfl) (fun _ _ _ h => h) (fun w' _ => by kernel_rfl) ⟨N_10, trivial⟩ ?_
  simp only [Act.put, List.setIfInBounds_toArray, List.set_cons_zero, List.set_cons_succ]
  refine h_take 13 (.slice q (image (bytesOf nameN) [[h], l, r]).length c) rfl 3 rfl (by kernel_rfl) (by kernel_rfl) (by kernel_rfl) (by kernel_rfl) (fun _ _ _ h => h) (fun w' _ => by kernel_rfl) ⟨N_10, trivial⟩ ?_
  simp only [Act.put, List.setIfInBounds_toArray, List.set_cons_zero, List.set_cons_succ]
  refine h_take 14 (.int .i64 0) rfl 4 rfl (by kernel_rfl) (by kernel_rfl) (by kernel_rfl) (by kernel_rfl) (fun _ _ _ h => h) (fun w' _ => by kernel_rfl) ⟨N_10, trivial⟩ ?_
  simp only [Act.put, List.setIfInBounds_toArray, List.set_cons_zero, List.set_cons_succ]
  refine wpAnyH_done (by kernel_rfl) ?_ _
  go_wp2_with fail
  go_ret
  exact ⟨⟨q, c, by rw [← HI.out]; rfl, hO.came HLT.out⟩, bel_10⟩
set_option maxHeartbeats 4000000 in
set_option maxRecDepth 100000 in
theorem limg_any (a : Acct) (w : World) (ka : a.Ok) (hr : NRt a.nm) :
    Calls Tryd.prog 39 #[.agg (acs a).toArray] w (CmPost w (imgA a)) := by
  have KA := Lib.hid (sz_acc a)
  have HB : Hid (ansB a = accB a) := Lib.hid (if_pos hr); have HE : Hid (ansE a = 0) := Lib.hid (if_pos hr)
  have CB := Lib.hid (fun w0 => abytes_any a w0 ka)
  have HLB := Lib.hid (accB_lt (a := a) (by have := hr.2.1; omega))
  have CI := Lib.hid (fun P w0 (hp : Parts w0 P [accB a]) => Tg.img_short nameA [accB a] P 1 w0 (by decide) (by simp) (by simp [total, accB_len]; have := hr.2.1; omega) hp)
  have HLT := Lib.hid (imgA_lt (a := a) (by have := hr.2.1; omega))
  have HI : Hid (image (bytesOf nameA) [accB a] = imgA a) := Lib.hid rfl
  clear ka hr
  generalize imgA a = bs at HLT HI ⊢
  go_enter Tryd.func39, Tryd.ntmps39
  go_wp2_with (first
    | ((with_reducible refine at_slot 1 ?_); (refine arm_box (o := ⟨some 1, _, _, _, _, _⟩) rfl _ _ rfl (acs a) rfl ?_); intro A v1 Ae hv1 nv1; try simp only [Act.put, List.setIfInBounds_toArray, List.set_cons_zero, List.set_cons_succ])
    | ((with_reducible refine at_slot 8 ?_); (refine arm_load (o := ⟨some 8, _, _, _, _, _⟩) rfl _ _ rfl A 0 rfl (acs a) ((Has.refl _).range hv1) KA.out ?_); try simp only [Act.put, List.setIfInBounds_toArray, List.set_cons_zero, List.set_cons_succ]))
  have hbv1 := nv1.below
  have rrv1 : Row v1 A 27 (acs a) := hv1
  have geA : w.heap.size ≤ A := by have := Ae.out; omega
  clear hv1 nv1 Ae
  have bel_2 : Below w.heap.size w v1 := hbv1
  clear hbv1
  refine (CB.out _).mono ?_
  rintro e y3 ⟨⟨q, c, rfl, hO⟩, hB⟩
  have A_4 : Row y3 A 27 (acs a) := rrv1.old hB
  have bel_4 : Below w.heap.size w y3 := below_step bel_2 bel_2.size hB
  clear rrv1 bel_2 hB
  rw [HB.out] at hO ⊢
  have hC := hO.came HLB.out
  clear hO
  generalize hn : (accB a).length = n
  go_wp2_with (first
    | ((with_reducible refine at_slot 14 ?_); (refine arm_one (o := ⟨some 14, _, _, _, _, _⟩) rfl _ rfl q n c rfl ?_); intro Z vz Ze hZ nZ; try simp only [Act.put, List.setIfInBounds_toArray, List.set_cons_zero, List.set_cons_succ]))
  subst hn
  have hbz := nZ.below
  have hC2 := hC.below hbz
  clear nZ Ze hC
  have A_5 : Row vz A 27 (acs a) := A_4.old hbz
  have bel_5 : Below w.heap.size w vz := below_step bel_4 bel_4.size hbz
  clear A_4 bel_4
  clear hbz
  have CT := CI.out _ _ (parts_one hZ hC2)
  refine (CT).mono ?_
  rintro e y6 ⟨⟨q2, c2, rfl, hO⟩, hB⟩
  have A_7 : Row y6 A 27 (acs a) := A_5.old hB
  have bel_7 : Below w.heap.size w y6 := below_step bel_5 bel_5.size hB
  clear A_5 bel_5 hB
  rw [HI.out] at hO
  go_wp2_with fail
  go_ret
  exact ⟨⟨q2, c2, by rw [← HI.out]; rfl, hO.came HLT.out⟩, bel_7⟩
end Go.Proofs.YtaihhbiocolhcaaDoor.Pf
