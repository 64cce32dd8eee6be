/-
  The contract of layer 14's awake: the calls whose answers the document fixes answer so: it returns true. Over this seat's translation.
-/
import Derived.Test.YteomndfalonncaaDoorAccRead
import Derived.Test.YteomndfalonncaaDoorAccRef
import Derived.Test.YteomndfalonncaaDoorShaAll
namespace Go.Proofs.YteomndfalonncaaDoor.Ac
open Go.ChangeShapes Go.WideShapes Go.ChangeAt Go.RowKit Go.Proofs.YteomndfalonncaaDoor.Mem Go.Proofs.YteomndfalonncaaDoor.Bt Go.Proofs.YteomndfalonncaaDoor.Wi Go.Proofs.YteomndfalonncaaDoor.Sha
open Go.Proofs.YteomndfalonncaaDoor.Tg (bytesOf bytesOf_length bytesOf_lt bytesOf_inj Rd Rd.below Parts parts_one arm_one tagD tagD_len tagOf_any refTag_any)
open Go.Proofs.YteomndfalonncaaDoor.Ep (H32 zh zh_ok Has h_len szH zH fitH allH)
set_option linter.unusedVariables false
set_option linter.unusedSimpArgs false

/-- The account ab, with 258 and 3. -/
def abA : Acct := ⟨⟨#[97, 98]⟩, 258, 3⟩
def abB : List Nat := [2, 97, 98, 0, 0, 0, 0, 0, 0, 1, 2, 0, 0, 0, 3]
theorem ab_ok : abA.Ok := ⟨by decide, by decide⟩
theorem ab_rt : NRt abA.nm := by decide
theorem ab_bytes : accB abA = abB := by decide
theorem ab_lt : AllLt 256 abB := ab_bytes ▸ accB_lt (a := abA) (by decide)
theorem za_rt : ¬ NRt za.nm := by decide
set_option maxRecDepth 100000 in
theorem dga : (digest (Tg.image (bytesOf nameA) [abB])).getD 0 0 = 142 := by kernel_rfl
set_option maxRecDepth 100000 in
theorem dge : (digest (Tg.image (bytesOf nameE) [])).getD 0 0 = 29 := by kernel_rfl
theorem dig_ne : digA abA ≠ digE := by
  intro h
  have h1 : (digA abA).getD 0 0 = 142 := by
    unfold digA tagD
    rw [ab_bytes, if_pos ⟨by decide, by decide⟩]
    exact dga
  have h2 : digE.getD 0 0 = 29 := by
    unfold digE tagD
    rw [if_pos ⟨by decide, by decide⟩]
    exact dge
  rw [h, h2] at h1
  revert h1
  decide
theorem run_op_eqlD {o : Oper} {a : Act} (x y : Operand) (t' : TypeId) (ho : o.op = .binOp .eql 34 x y t') (xs ys : List Nat) (hlx : xs.length = 32) (hly : ys.length = 32) (hx : a.eval x = .agg (u8s xs).toArray) (hy : a.eval y = .agg (u8s ys).toArray) (b : Bool) (hb : decide (xs = ys) = b) (w : World) : (execOp a.eval o).run Tryd.prog w = .ok (.value (.bool b)) w := by
  subst hb
  exact run_op_eql2 x y t' ho xs ys hlx hly hx hy w
theorem run_op_neqD {o : Oper} {a : Act} (x y : Operand) (t' : TypeId) (ho : o.op = .binOp .neq 34 x y t') (xs ys : List Nat) (hlx : xs.length = 32) (hly : ys.length = 32) (hx : a.eval x = .agg (u8s xs).toArray) (hy : a.eval y = .agg (u8s ys).toArray) (b : Bool) (hb : decide (xs = ys) = b) (w : World) : (execOp a.eval o).run Tryd.prog w = .ok (.value (.bool (!b))) w := by
  subst hb
  exact run_op_neq2 x y t' ho xs ys hlx hly hx hy w
theorem bs15 (w : World) : (Instr.buildSlice 26 15 #[(0, .int .u8 2), (1, .int .u8 97), (2, .int .u8 98), (3, .int .u8 0), (4, .int .u8 0), (5, .int .u8 0), (6, .int .u8 0), (7, .int .u8 0), (8, .int .u8 0), (9, .int .u8 1), (10, .int .u8 2), (11, .int .u8 0), (12, .int .u8 0), (13, .int .u8 0), (14, .int .u8 3)]).run Tryd.prog w = .ok (.slice (some ⟨w.heap.size, 0, none⟩) 15 15) (w.alloc (.cells (u8s abB).toArray 5)) := by kernel_rfl
theorem run_op_bs {o : Oper} {a : Act} (n : Nat) (parts : Array (Nat × Operand)) (ho : o.op = .buildSlice 26 n parts) (pv : Array (Nat × Value)) (hpv : (parts.map fun (i, x) => (i, a.eval x)) = pv) (l : List Nat)
    (hr : ∀ w : World, (Instr.buildSlice 26 n pv).run Tryd.prog w = .ok (.slice (some ⟨w.heap.size, 0, none⟩) n n) (w.alloc (.cells (u8s l).toArray 5))) (w : World) :
    (execOp a.eval o).run Tryd.prog w = .ok (.value (.slice (some ⟨w.heap.size, 0, none⟩) n n)) (w.alloc (.cells (u8s l).toArray 5)) := by
  unfold execOp
  simp only [ho, hpv, Sem.run_bind, hr w, Result.andThen_ok, Sem.run_pure]
set_option maxHeartbeats 4000000 in
set_option maxRecDepth 100000 in
theorem awake_any (w : World) (hk : w.rangeAt 1 0 (u32s ks)) (hk2 : w.rangeAt 0 0 (u32s ks)) :
    Calls Tryd.prog 5 #[] w fun e w' => e = .returned (.bool true) ∧ Below w.heap.size w w' := by
  have hk1 : 1 < w.heap.size := range_lt hk (by simp [u32s, ks])
  have HKW : Hid (∀ w', Below w.heap.size w w' → w'.rangeAt 1 0 (u32s ks)) := Lib.hid fun w' hb => range_block hk (hb.block _ hk1)
  have hk3 : 0 < w.heap.size := range_lt hk2 (by simp [u32s, ks])
  have HKW2 : Hid (∀ w', Below w.heap.size w w' → w'.rangeAt 0 0 (u32s ks)) := Lib.hid fun w' hb => range_block hk2 (hb.block _ hk3)
  clear hk hk1 hk2 hk3
  have BX : Hid (Tryd.prog.built 25 [(0, .string ⟨#[97, 98]⟩), (1, .int .u64 258), (2, .int .u32 3)] = some (acs abA).toArray) := Lib.hid (by kernel_rfl)
  have hab : ansB abA = abB := by unfold ansB; rw [if_pos ab_rt, ab_bytes]
  have hae : ansE abA = 0 := by unfold ansE; rw [if_pos ab_rt]
  have hah : ansH abA = digA abA := by unfold ansH; rw [if_pos ab_rt]
  have hzb : ansB za = [] := by unfold ansB; rw [if_neg za_rt]
  have hze : ansE za = 1 := by unfold ansE; rw [if_neg za_rt]
  have CB : Hid (∀ w0, Calls Tryd.prog 6 #[.agg (acs abA).toArray] w0 fun e w' => (∃ q c, e = .returned (.tuple #[.slice q 15 c, .int .i64 0]) ∧ Bt.Own w' w0.heap.size q c abB) ∧ Below w0.heap.size w0 w') := Lib.hid fun w0 => (abytes_any abA w0 ab_ok).mono fun e w' h => ⟨by obtain ⟨q, c, h1, h2⟩ := h.ex; rw [hab, hae] at h1; rw [hab] at h2; exact ⟨q, c, h1, h2⟩, h.bel⟩
  have CZ : Hid (∀ w0, Calls Tryd.prog 6 #[.agg (acs za).toArray] w0 fun e w' => (∃ q c, e = .returned (.tuple #[.slice q 0 c, .int .i64 1])) ∧ Below w0.heap.size w0 w') := Lib.hid fun w0 => (abytes_any za w0 za_ok).mono fun e w' h => ⟨by obtain ⟨q, c, h1, h2⟩ := h.ex; rw [hzb, hze] at h1; exact ⟨q, c, h1⟩, h.bel⟩
  have CD : Hid (∀ q c w0, Rd w0 q abB → (q = none → abB.length = 0 ∧ c = 0) → Calls Tryd.prog 10 #[.slice q 15 c] w0 fun e w' => e = .returned (.tuple #[.agg (acs abA).toArray, .int .i64 0]) ∧ Below w0.heap.size w0 w') := Lib.hid fun q c w0 h1 h2 => (aread_any abB q c w0 h1 h2 (by decide) ab_lt).mono fun e w' h => ⟨by have h3 := h.ret; rw [← ab_bytes, acc_back ab_ok ab_rt] at h3; exact h3, h.bel⟩
  have CH : Hid (∀ w0, w0.rangeAt 1 0 (u32s ks) → Calls Tryd.prog 8 #[.agg (acs abA).toArray] w0 fun e w' => e = .returned (.tuple #[.agg (u8s (digA abA)).toArray, .int .i64 0]) ∧ Below w0.heap.size w0 w') := Lib.hid fun w0 h => (ahash_any abA w0 ab_ok h).mono fun e w' h => ⟨by have h3 := h.ret; rw [hah, hae] at h3; exact h3, h.bel⟩
  have CR := Lib.hid (fun w0 => aright_any abA w0)
  rw [decide_eq_true ab_rt] at CR
  have CN := Lib.hid (fun w0 h => anone_any w0 h)
  have CM := Lib.hid (fun w0 h => rnone_any w0 h)
  have HNE := Lib.hid (decide_eq_false dig_ne)
  have KD := Lib.hid (digA_ok abA).len; have KE := Lib.hid digE_ok.len
  have KDH := Lib.hid (digA_ok abA)
  have BZ := Lib.hid built_za
  have HBL : Hid (abB.length = 15) := Lib.hid rfl
  generalize digA abA = dd at CH HNE KD KDH
  generalize digE = de at CN CM HNE KE
  generalize abA = x at *
  clear hab hae hah hzb hze
  have CS := Lib.hid (fun (q : Option Addr) (c : Nat) (b : Nat) (w0 : World) (h1 : Rd w0 q abB) (h2 : Rd w0 (some ⟨b, 0, none⟩) abB) => same_at abB abB q (some ⟨b, 0, none⟩) c 15 15 15 rfl rfl w0 h1 h2 (by decide) (by decide))
  rw [decide_eq_true rfl] at CS
  have B15 := Lib.hid bs15
  generalize abB = bb at *
  go_enter Tryd.func5, Tryd.ntmps5
  go_wp2_with (first
    | ((with_reducible refine at_slot 10 ?_); (refine arm_build (o := ⟨some 10, _, _, _, _, _⟩) rfl _ _ rfl (acs x) (by simp only [List.map_toArray, List.map_cons, List.map_nil]; exact BX.out) ?_))
    | ((with_reducible refine at_slot 1 ?_); (refine arm_alloc (o := ⟨some 1, _, _, _, _, _⟩) rfl _ rfl (acs za) z_acc ?_); intro P w2a Pe hPa nP)
    | ((with_reducible refine arm_store (o := ⟨none, _, _, _, _, _⟩) rfl _ _ _ rfl P 0 rfl (acs x) rfl _ _ hPa (fitA x) (acs_one x) (sz_acc x) ?_); intro w2 hPb oP sP)
    | ((with_reducible refine at_slot 12 ?_); (refine arm_load (o := ⟨some 12, _, _, _, _, _⟩) rfl _ _ rfl P 0 rfl (acs x) ((Has.refl _).range (hPb.congr (allA x))) (sz_acc x) ?_)))
  have lP : w.heap.size ≤ P := by have := Pe.out; omega
  have bel2 : Below w.heap.size w w2 := below_only nP.below oP lP nP.below.size
  have rP2 : Row w2 P 25 (acs x) := hPb.congr (allA x)
  clear hPa hPb nP oP sP Pe
  refine (CB.out w2).mono ?_
  rintro e w3 ⟨⟨q, c, rfl, hO⟩, hB⟩
  have rP3 := rP2.old hB
  have bel3 : Below w.heap.size w w3 := below_step bel2 bel2.size hB
  have HQ := Lib.hid (own_none hO)
  have rd3 : Rd w3 q bb := hO.rd
  clear rP2 bel2 hB hO
  go_wp2_with fail
  refine (CD.out q c w3 rd3 HQ.out).mono ?_
  rintro e w4 ⟨rfl, hB⟩
  have rP4 := rP3.old hB
  have bel4 : Below w.heap.size w w4 := below_step bel3 bel3.size hB
  have rd4 := rd3.below hB
  clear rP3 bel3 hB rd3
  go_wp2_with (first
    | ((with_reducible refine at_slot 4 ?_); (refine arm_alloc (o := ⟨some 4, _, _, _, _, _⟩) rfl _ rfl (acs za) z_acc ?_); intro C w5a Ce hCa nC)
    | ((with_reducible refine arm_store (o := ⟨none, _, _, _, _, _⟩) rfl _ _ _ rfl C 0 rfl (acs x) rfl _ _ hCa (fitA x) (acs_one x) (sz_acc x) ?_); intro w5 hCb oC sC)
    | ((with_reducible refine at_slot 22 ?_); (refine arm_load (o := ⟨some 22, _, _, _, _, _⟩) rfl _ _ rfl P 0 rfl (acs x) ((Has.refl _).range ((rP4.old nC.below).only oC (by have := Ce.out; have := rP4.lt; omega))) (sz_acc x) ?_)))
  have lC : w4.heap.size ≤ C := by have := Ce.out; omega
  have b45 : Below w4.heap.size w4 w5 := below_only nC.below oC lC nC.below.size
  have rC5 : Row w5 C 25 (acs x) := hCb.congr (allA x)
  have rP5 := rP4.old b45
  have bel5 : Below w.heap.size w w5 := below_step bel4 bel4.size b45
  have rd5 := rd4.below b45
  clear hCa hCb nC oC sC Ce rP4 bel4 rd4 b45
  refine (CH.out w5 (HKW.out w5 bel5)).mono ?_
  rintro e w6 ⟨rfl, hB⟩
  have rP6 := rP5.old hB
  have rC6 := rC5.old hB
  have bel6 : Below w.heap.size w w6 := below_step bel5 bel5.size hB
  have rd6 := rd5.below hB
  clear rP5 rC5 bel5 hB rd5
  go_wp2_with (first
    | ((with_reducible refine at_slot 6 ?_); (refine arm_alloc (o := ⟨some 6, _, _, _, _, _⟩) rfl _ rfl (u8s zh) zH ?_); intro D w7a De hDa nD)
    | ((with_reducible refine arm_store (o := ⟨none, _, _, _, _, _⟩) rfl _ _ _ rfl D 0 rfl (u8s dd) rfl _ _ hDa (fitH KDH.out) (u8s_one _) (szH KDH.out) ?_); intro w7 hDb oD sD)
    | ((with_reducible refine at_slot 27 ?_); (refine arm_build (o := ⟨some 27, _, _, _, _, _⟩) rfl _ _ rfl (acs za) (by simp only [List.map_toArray, List.map_nil]; exact BZ.out) ?_)))
  have lD : w6.heap.size ≤ D := by have := De.out; omega
  have b67 : Below w6.heap.size w6 w7 := below_only nD.below oD lD nD.below.size
  have rD7 : Row w7 D 34 (u8s dd) := hDb.congr (allH KDH.out)
  have rP7 := rP6.old b67
  have rC7 := rC6.old b67
  have bel7 : Below w.heap.size w w7 := below_step bel6 bel6.size b67
  have rd7 := rd6.below b67
  clear hDa hDb nD oD sD De rP6 rC6 bel6 rd6 b67
  refine (CZ.out w7).mono ?_
  rintro e w8 ⟨⟨q8, c8, rfl⟩, hB⟩
  have rP8 := rP7.old hB
  have rC8 := rC7.old hB
  have rD8 := rD7.old hB
  have bel8 : Below w.heap.size w w8 := below_step bel7 bel7.size hB
  have rd8 := rd7.below hB
  clear rP7 rC7 rD7 bel7 hB rd7
  go_wp2_with fail
  refine wp_region_held (S := fun w' => Below w8.heap.size w8 w') (by kernel_rfl) ?_
  change wpAnyH _ _ _ _ _ _ _ _ w8.drew
  have hS : Below w8.heap.size w8 w8.drew := (Below.refl _ _).drew
  generalize w8.drew = yz at hS ⊢
  refine h_take 0 (.slice q 15 c) rfl 31 rfl (by kernel_rfl) (by kernel_rfl) (by kernel_rfl) (by kernel_rfl) (fun _ _ _ h => h) (fun w' _ => by kernel_rfl) hS ?_
  simp only [Act.put, List.setIfInBounds_toArray, List.set_cons_zero, List.set_cons_succ]
  refine h_one (i := 1) (by kernel_rfl) (o_value _ rfl 32 rfl (by kernel_rfl) (run_op_bs 15 _ rfl _ (by simp only [List.map_toArray, List.map_cons, List.map_nil]; rfl) bb B15.out yz) ?_)
  have hN := new_alloc yz (.cells (u8s bb).toArray 5)
  have rB : Row (yz.alloc (.cells (u8s bb).toArray 5)) yz.heap.size 5 (u8s bb) := heap_alloc_new _ _
  generalize yz.alloc (.cells (u8s bb).toArray 5) = yz0 at hN rB ⊢
  have hS0 : Below w8.heap.size w8 yz0 := below_step hS hS.size hN.below
  have rdB : Rd yz0 (some ⟨yz.heap.size, 0, none⟩) bb := ⟨fun _ => ⟨_, 0, rfl, rB.range 0 _ (fun j v hj => by rw [Nat.zero_add]; exact hj)⟩⟩
  have rdq := rd8.below hS0
  clear hN rB hS
  refine ⟨hS0, ?_⟩
  generalize yz.heap.size = b at rdB ⊢
  simp only [Act.put, List.setIfInBounds_toArray, List.set_cons_zero, List.set_cons_succ]
  refine h_one (i := 2) (by kernel_rfl) (o_call rfl 33 rfl (by kernel_rfl) (run_op_call 14 _ _ rfl #[.slice q 15 c, .slice (some ⟨b, 0, none⟩) 15 15] (by simp only [List.map_toArray, List.map_cons, List.map_nil]; rfl) Tryd.func14 (by kernel_rfl) (by kernel_rfl) _) (CS.out q c b _ rdq rdB) ?_)
  rintro e yz1 ⟨rfl, hB⟩
  have hS1 : Below w8.heap.size w8 yz1 := below_step hS0 hS0.size hB
  clear hB hS0
  refine ⟨_, rfl, hS1, ?_⟩
  simp only [Act.put, List.setIfInBounds_toArray, List.set_cons_zero, List.set_cons_succ]
  refine h_take 3 (.bool true) rfl 34 rfl (by kernel_rfl) (by kernel_rfl) (by kernel_rfl) (by kernel_rfl) (fun _ _ _ h => h) (fun w' _ => by kernel_rfl) hS1 ?_
  simp only [Act.put, List.setIfInBounds_toArray, List.set_cons_zero, List.set_cons_succ]
  refine h_take 4 (.int .i64 0) rfl 35 rfl (by kernel_rfl) (by kernel_rfl) (by kernel_rfl) (by kernel_rfl) (fun _ _ _ h => h) (fun w' _ => by kernel_rfl) hS1 ?_
  simp only [Act.put, List.setIfInBounds_toArray, List.set_cons_zero, List.set_cons_succ]
  refine h_take 5 (.bool true) rfl 36 rfl (by kernel_rfl) (by kernel_rfl) (by kernel_rfl) (by kernel_rfl) (fun _ _ _ h => h) (fun w' _ => by kernel_rfl) hS1 ?_
  simp only [Act.put, List.setIfInBounds_toArray, List.set_cons_zero, List.set_cons_succ]
  refine h_take 6 (.bool true) rfl 37 rfl (by kernel_rfl) (by kernel_rfl) (by kernel_rfl) (by kernel_rfl) (fun _ _ _ h => h) (fun w' _ => by kernel_rfl) hS1 ?_
  simp only [Act.put, List.setIfInBounds_toArray, List.set_cons_zero, List.set_cons_succ]
  refine h_take 7 (.bool true) rfl 38 rfl (by kernel_rfl) (by kernel_rfl) (by kernel_rfl) (by kernel_rfl) (fun _ _ _ h => h) (fun w' _ => by kernel_rfl) hS1 ?_
  simp only [Act.put, List.setIfInBounds_toArray, List.set_cons_zero, List.set_cons_succ]
  refine h_take 8 (.agg (acs x).toArray) rfl 39 rfl (by kernel_rfl) (by kernel_rfl) (by kernel_rfl) (by kernel_rfl) (fun _ _ _ h => h) (fun w' hw => run_op_load _ _ rfl C 0 rfl (acs x) ((Has.refl _).range (rC8.old hw)) (sz_acc x)) hS1 ?_
  simp only [Act.put, List.setIfInBounds_toArray, List.set_cons_zero, List.set_cons_succ]
  refine h_take 9 (.agg (acs x).toArray) rfl 40 rfl (by kernel_rfl) (by kernel_rfl) (by kernel_rfl) (by kernel_rfl) (fun _ _ _ h => h) (fun w' hw => run_op_load _ _ rfl P 0 rfl (acs x) ((Has.refl _).range (rP8.old hw)) (sz_acc x)) hS1 ?_
  simp only [Act.put, List.setIfInBounds_toArray, List.set_cons_zero, List.set_cons_succ]
  refine h_take 10 (.bool true) rfl 41 rfl (by kernel_rfl) (by kernel_rfl) (by kernel_rfl) (by kernel_rfl) (fun _ _ _ h => h) (fun w' _ => run_op_eqlA _ _ _ rfl x x rfl rfl true (by simp) w') hS1 ?_
  simp only [Act.put, List.setIfInBounds_toArray, List.set_cons_zero, List.set_cons_succ]
  refine h_take 11 (.bool true) rfl 42 rfl (by kernel_rfl) (by kernel_rfl) (by kernel_rfl) (by kernel_rfl) (fun _ _ _ h => h) (fun w' _ => by kernel_rfl) hS1 ?_
  simp only [Act.put, List.setIfInBounds_toArray, List.set_cons_zero, List.set_cons_succ]
  refine h_take 12 (.bool true) rfl 43 rfl (by kernel_rfl) (by kernel_rfl) (by kernel_rfl) (by kernel_rfl) (fun _ _ _ h => h) (fun w' _ => by kernel_rfl) hS1 ?_
  simp only [Act.put, List.setIfInBounds_toArray, List.set_cons_zero, List.set_cons_succ]
  refine h_take 13 (.int .i64 0) rfl 44 rfl (by kernel_rfl) (by kernel_rfl) (by kernel_rfl) (by kernel_rfl) (fun _ _ _ h => h) (fun w' _ => by kernel_rfl) hS1 ?_
  simp only [Act.put, List.setIfInBounds_toArray, List.set_cons_zero, List.set_cons_succ]
  refine h_take 14 (.bool true) rfl 45 rfl (by kernel_rfl) (by kernel_rfl) (by kernel_rfl) (by kernel_rfl) (fun _ _ _ h => h) (fun w' _ => by kernel_rfl) hS1 ?_
  simp only [Act.put, List.setIfInBounds_toArray, List.set_cons_zero, List.set_cons_succ]
  refine h_take 15 (.bool true) rfl 46 rfl (by kernel_rfl) (by kernel_rfl) (by kernel_rfl) (by kernel_rfl) (fun _ _ _ h => h) (fun w' _ => by kernel_rfl) hS1 ?_
  simp only [Act.put, List.setIfInBounds_toArray, List.set_cons_zero, List.set_cons_succ]
  refine h_take 16 (.bool true) rfl 47 rfl (by kernel_rfl) (by kernel_rfl) (by kernel_rfl) (by kernel_rfl) (fun _ _ _ h => h) (fun w' _ => by kernel_rfl) hS1 ?_
  simp only [Act.put, List.setIfInBounds_toArray, List.set_cons_zero, List.set_cons_succ]
  refine h_take 17 (.int .i64 0) rfl 48 rfl (by kernel_rfl) (by kernel_rfl) (by kernel_rfl) (by kernel_rfl) (fun _ _ _ h => h) (fun w' _ => by kernel_rfl) hS1 ?_
  simp only [Act.put, List.setIfInBounds_toArray, List.set_cons_zero, List.set_cons_succ]
  refine h_take 18 (.bool true) rfl 49 rfl (by kernel_rfl) (by kernel_rfl) (by kernel_rfl) (by kernel_rfl) (fun _ _ _ h => h) (fun w' _ => by kernel_rfl) hS1 ?_
  simp only [Act.put, List.setIfInBounds_toArray, List.set_cons_zero, List.set_cons_succ]
  refine h_take 19 (.bool true) rfl 50 rfl (by kernel_rfl) (by kernel_rfl) (by kernel_rfl) (by kernel_rfl) (fun _ _ _ h => h) (fun w' _ => by kernel_rfl) hS1 ?_
  simp only [Act.put, List.setIfInBounds_toArray, List.set_cons_zero, List.set_cons_succ]
  refine h_take 20 (.bool true) rfl 51 rfl (by kernel_rfl) (by kernel_rfl) (by kernel_rfl) (by kernel_rfl) (fun _ _ _ h => h) (fun w' _ => by kernel_rfl) hS1 ?_
  simp only [Act.put, List.setIfInBounds_toArray, List.set_cons_zero, List.set_cons_succ]
  refine h_take 21 (.agg (u8s dd).toArray) rfl 52 rfl (by kernel_rfl) (by kernel_rfl) (by kernel_rfl) (by kernel_rfl) (fun _ _ _ h => h) (fun w' hw => run_op_load _ _ rfl D 0 rfl (u8s dd) ((Has.refl _).range (rD8.old hw)) (szH KDH.out)) hS1 ?_
  simp only [Act.put, List.setIfInBounds_toArray, List.set_cons_zero, List.set_cons_succ]
  refine h_one (i := 22) (by kernel_rfl) (o_call rfl 53 rfl (by kernel_rfl) (run_op_call 15 _ _ rfl #[] (by simp only [List.map_toArray, List.map_nil]) Tryd.func15 (by kernel_rfl) (by kernel_rfl) _) (CN.out _ (HKW.out _ (below_step bel8 bel8.size hS1))) ?_)
  rintro e yz2 ⟨rfl, hB⟩
  have hS2 : Below w8.heap.size w8 yz2 := below_step hS1 hS1.size hB
  clear hB hS1
  refine ⟨_, rfl, hS2, ?_⟩
  simp only [Act.put, List.setIfInBounds_toArray, List.set_cons_zero, List.set_cons_succ]
  refine h_take 23 (.bool (!false)) rfl 54 rfl (by kernel_rfl) (by kernel_rfl) (by kernel_rfl) (by kernel_rfl) (fun _ _ _ h => h) (fun w' _ => run_op_neqD _ _ _ rfl dd de KD.out KE.out rfl rfl false HNE.out w') hS2 ?_
  simp only [Act.put, List.setIfInBounds_toArray, List.set_cons_zero, List.set_cons_succ]
  refine h_take 24 (.bool true) rfl 55 rfl (by kernel_rfl) (by kernel_rfl) (by kernel_rfl) (by kernel_rfl) (fun _ _ _ h => h) (fun w' _ => by kernel_rfl) hS2 ?_
  simp only [Act.put, List.setIfInBounds_toArray, List.set_cons_zero, List.set_cons_succ]
  refine h_take 25 (.bool true) rfl 56 rfl (by kernel_rfl) (by kernel_rfl) (by kernel_rfl) (by kernel_rfl) (fun _ _ _ h => h) (fun w' _ => by kernel_rfl) hS2 ?_
  simp only [Act.put, List.setIfInBounds_toArray, List.set_cons_zero, List.set_cons_succ]
  refine h_take 26 (.int .i64 1) rfl 57 rfl (by kernel_rfl) (by kernel_rfl) (by kernel_rfl) (by kernel_rfl) (fun _ _ _ h => h) (fun w' _ => by kernel_rfl) hS2 ?_
  simp only [Act.put, List.setIfInBounds_toArray, List.set_cons_zero, List.set_cons_succ]
  refine h_take 27 (.bool true) rfl 58 rfl (by kernel_rfl) (by kernel_rfl) (by kernel_rfl) (by kernel_rfl) (fun _ _ _ h => h) (fun w' _ => by kernel_rfl) hS2 ?_
  simp only [Act.put, List.setIfInBounds_toArray, List.set_cons_zero, List.set_cons_succ]
  refine h_take 28 (.bool true) rfl 59 rfl (by kernel_rfl) (by kernel_rfl) (by kernel_rfl) (by kernel_rfl) (fun _ _ _ h => h) (fun w' _ => by kernel_rfl) hS2 ?_
  simp only [Act.put, List.setIfInBounds_toArray, List.set_cons_zero, List.set_cons_succ]
  refine h_take 29 (.bool true) rfl 60 rfl (by kernel_rfl) (by kernel_rfl) (by kernel_rfl) (by kernel_rfl) (fun _ _ _ h => h) (fun w' _ => by kernel_rfl) hS2 ?_
  simp only [Act.put, List.setIfInBounds_toArray, List.set_cons_zero, List.set_cons_succ]
  refine h_take 30 (.agg (acs x).toArray) rfl 61 rfl (by kernel_rfl) (by kernel_rfl) (by kernel_rfl) (by kernel_rfl) (fun _ _ _ h => h) (fun w' hw => run_op_load _ _ rfl P 0 rfl (acs x) ((Has.refl _).range (rP8.old hw)) (sz_acc x)) hS2 ?_
  simp only [Act.put, List.setIfInBounds_toArray, List.set_cons_zero, List.set_cons_succ]
  refine h_one (i := 31) (by kernel_rfl) (o_call rfl 62 rfl (by kernel_rfl) (run_op_call 12 _ _ rfl #[.agg (acs x).toArray] (by simp only [List.map_toArray, List.map_cons, List.map_nil]; rfl) Tryd.func12 (by kernel_rfl) (by kernel_rfl) _) (CR.out _) ?_)
  rintro e yz3 ⟨rfl, hB⟩
  have hS3 : Below w8.heap.size w8 yz3 := below_step hS2 hS2.size hB
  clear hB hS2
  refine ⟨_, rfl, hS3, ?_⟩
  simp only [Act.put, List.setIfInBounds_toArray, List.set_cons_zero, List.set_cons_succ]
  refine h_take 32 (.bool true) rfl 63 rfl (by kernel_rfl) (by kernel_rfl) (by kernel_rfl) (by kernel_rfl) (fun _ _ _ h => h) (fun w' _ => by kernel_rfl) hS3 ?_
  simp only [Act.put, List.setIfInBounds_toArray, List.set_cons_zero, List.set_cons_succ]
  refine h_take 33 (.bool true) rfl 64 rfl (by kernel_rfl) (by kernel_rfl) (by kernel_rfl) (by kernel_rfl) (fun _ _ _ h => h) (fun w' _ => by kernel_rfl) hS3 ?_
  simp only [Act.put, List.setIfInBounds_toArray, List.set_cons_zero, List.set_cons_succ]
  refine h_one (i := 34) (by kernel_rfl) (o_call rfl 65 rfl (by kernel_rfl) (run_op_call 15 _ _ rfl #[] (by simp only [List.map_toArray, List.map_nil]) Tryd.func15 (by kernel_rfl) (by kernel_rfl) _) (CN.out _ (HKW.out _ (below_step bel8 bel8.size hS3))) ?_)
  rintro e yz4 ⟨rfl, hB⟩
  have hS4 : Below w8.heap.size w8 yz4 := below_step hS3 hS3.size hB
  clear hB hS3
  refine ⟨_, rfl, hS4, ?_⟩
  simp only [Act.put, List.setIfInBounds_toArray, List.set_cons_zero, List.set_cons_succ]
  refine h_one (i := 35) (by kernel_rfl) (o_call rfl 66 rfl (by kernel_rfl) (run_op_call 16 _ _ rfl #[] (by simp only [List.map_toArray, List.map_nil]) Tryd.func16 (by kernel_rfl) (by kernel_rfl) _) (CM.out _ (HKW2.out _ (below_step bel8 bel8.size hS4))) ?_)
  rintro e yz5 ⟨rfl, hB⟩
  have hS5 : Below w8.heap.size w8 yz5 := below_step hS4 hS4.size hB
  clear hB hS4
  refine ⟨_, rfl, hS5, ?_⟩
  simp only [Act.put, List.setIfInBounds_toArray, List.set_cons_zero, List.set_cons_succ]
  refine h_take 36 (.bool true) rfl 67 rfl (by kernel_rfl) (by kernel_rfl) (by kernel_rfl) (by kernel_rfl) (fun _ _ _ h => h) (fun w' _ => run_op_eqlD _ _ _ rfl de de KE.out KE.out rfl rfl true (decide_eq_true rfl) w') hS5 ?_
  simp only [Act.put, List.setIfInBounds_toArray, List.set_cons_zero, List.set_cons_succ]
  refine h_take 37 (.bool true) rfl 68 rfl (by kernel_rfl) (by kernel_rfl) (by kernel_rfl) (by kernel_rfl) (fun _ _ _ h => h) (fun w' _ => by kernel_rfl) hS5 ?_
  simp only [Act.put, List.setIfInBounds_toArray, List.set_cons_zero, List.set_cons_succ]
  refine h_take 38 (.bool true) rfl 0 rfl (by kernel_rfl) (by kernel_rfl) (by kernel_rfl) (by kernel_rfl) (fun _ _ _ h => h) (fun w' _ => by kernel_rfl) hS5 ?_
  simp only [Act.put, List.setIfInBounds_toArray, List.set_cons_zero, List.set_cons_succ]
  refine wpAnyH_done (by kernel_rfl) ?_ _
  have belE := below_step bel8 bel8.size hS5
  go_wp2_with fail
  go_ret
  exact ⟨rfl, belE⟩
end Go.Proofs.YteomndfalonncaaDoor.Ac
