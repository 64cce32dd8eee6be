/-
  The contracts of package state's Genesis, Hash and Read, of the document's Genesis, and of the statements' own, over this seat's translation.
-/
import Derived.Test.YtghogoijjaiccaaStaMade
import Derived.Test.YtghogoijjaiccaaStaLeaf
import Derived.Test.YtghogoijjaiccaaStaRead
import Derived.Test.YtghogoijjaiccaaEpoAll
import Derived.Test.YtghogoijjaiccaaTagOne
namespace Go.Proofs.Ytghogoijjaiccaa.Sa
open Go.ChangeShapes Go.WideShapes Go.ChangeAt Go.RowKit Go.Proofs.Ytghogoijjaiccaa.Mem Go.Proofs.Ytghogoijjaiccaa.Bt Go.Proofs.Ytghogoijjaiccaa.Wi Go.Proofs.Ytghogoijjaiccaa.Tg Go.Proofs.Ytghogoijjaiccaa.Sha
open Go.Proofs.Ytghogoijjaiccaa.Ep (H32 Dat zh zh_ok num32 dcs dcs_len dcs_one zd zd_ok Has h_len one_app one_num szH zH fitH allH)
set_option linter.unusedVariables false
set_option linter.unusedSimpArgs false

theorem fitS {s : Sta} (k : s.Ok) : 0 + (scs s).length ≤ (scs zs).length := by rw [scs_len k, scs_len zs_ok]; omega
theorem allS {s : Sta} (k : s.Ok) : lay (scs zs) 0 (scs s) = scs s := lay_all _ _ (by rw [scs_len k, scs_len zs_ok])
set_option maxHeartbeats 1000000 in
set_option maxRecDepth 100000 in
theorem sgenesis_any (x : List Nat) (w : World) (k : H32 x) :
    Calls Try.prog 15 #[.agg (u8s x).toArray] w fun e w' => e = .returned (.agg (scs (genS x)).toArray) ∧ Below w.heap.size w w' := by
  have KD := Lib.hid k
  have GK := Lib.hid (gen_ok k)
  have B1 := Lib.hid (built_gen k)
  have CE := Lib.hid (fun w0 => Ep.first_any x w0 k)
  clear k
  obtain ⟨d, hd⟩ : ∃ d, d = Ep.pcs ⟨x, zh, zh, zh, 1⟩ ⟨x, zh, zh, zh, 1⟩ := ⟨_, rfl⟩
  rw [← hd] at B1 CE
  obtain ⟨g, hg⟩ : ∃ g, g = genS x := ⟨_, rfl⟩
  rw [← hg] at B1 GK ⊢
  clear hd hg
  go_enter Try.func15, Try.ntmps15
  go_wp2_with (first
    | ((with_reducible refine at_slot 1 ?_); (refine arm_box (o := ⟨some 1, _, _, _, _, _⟩) rfl _ _ rfl (u8s x) rfl ?_); intro X w1 Xe hw1 nw1)
    | ((with_reducible refine at_slot 2 ?_); (refine arm_alloc (o := ⟨some 2, _, _, _, _, _⟩) rfl _ rfl (scs zs) z_sta ?_); intro R w2 Re hw2 nw2))
  have e1 := Xe.out; have e2 := Re.out; have z1 := nw1.size; have z2 := nw2.size
  have HX : Row w2 X 24 (u8s x) := hw1.old nw2.below
  have bel : Below w.heap.size w w2 := below_step nw1.below (by omega) nw2.below
  have hXR : X ≠ R := by omega
  have hwR : w.heap.size ≤ R := by omega
  clear e1 e2 z1 z2 hw1 nw1 nw2 Xe Re
  refine wp_region_held (S := fun w' => Row w' X 24 (u8s x)) (by kernel_rfl) ?_
  change wpAnyH _ _ _ _ _ _ _ _ w2.drew
  have hS : Row w2.drew X 24 (u8s x) := HX
  have hR : Row w2.drew R 35 (scs zs) := hw2
  have hb : Below w.heap.size w w2.drew := bel.trans ((Below.refl _ _).drew)
  generalize w2.drew = wz at hS hR hb ⊢
  clear HX hw2 bel
  refine h_take 0 (.agg (u8s x).toArray) rfl 3 rfl (by kernel_rfl) (by kernel_rfl) (by kernel_rfl) (by kernel_rfl) (fun _ _ _ h => h) (fun w' hw => run_op_load _ _ rfl X 0 rfl (u8s x) ((Has.refl _).range hw) (szH KD.out)) hS ?_
  simp only [Act.put, List.setIfInBounds_toArray, List.set_cons_zero, List.set_cons_succ]
  refine h_take 2 (.agg (u8s x).toArray) rfl 5 rfl (by kernel_rfl) (by kernel_rfl) (by kernel_rfl) (by kernel_rfl) (fun _ _ _ h => h) (fun w' hw => run_op_load _ _ rfl X 0 rfl (u8s x) ((Has.refl _).range hw) (szH KD.out)) hS ?_
  simp only [Act.put, List.setIfInBounds_toArray, List.set_cons_zero, List.set_cons_succ]
  refine h_one (i := 1) (by kernel_rfl) (o_call rfl 4 rfl (by kernel_rfl) (run_op_call 38 _ _ rfl #[] (by simp only [List.map_toArray, List.map_nil]) Try.func38 (by kernel_rfl) (by kernel_rfl) _) (Wn.wgenesis_any wz) ?_)
  rintro e y1 ⟨rfl, h1⟩
  have hS1 := hS.old h1
  have hR1 := hR.old h1
  have hb1 : Below w.heap.size w y1 := below_step hb hb.size h1
  refine ⟨_, rfl, hS1, ?_⟩
  clear hS hR hb h1
  simp only [Act.put, List.setIfInBounds_toArray, List.set_cons_zero, List.set_cons_succ]
  refine h_one (i := 3) (by kernel_rfl) (o_call rfl 6 rfl (by kernel_rfl) (run_op_call 39 _ _ rfl #[.agg (u8s x).toArray] (by simp only [List.map_toArray, List.map_cons, List.map_nil]; rfl) Try.func39 (by kernel_rfl) (by kernel_rfl) _) (CE.out y1) ?_)
  rintro e y2 ⟨rfl, h2⟩
  have hS2 := hS1.old h2
  have hR2 := hR1.old h2
  have hb2 : Below w.heap.size w y2 := below_step hb1 hb1.size h2
  refine ⟨_, rfl, hS2, ?_⟩
  clear hS1 hR1 hb1 h2
  simp only [Act.put, List.setIfInBounds_toArray, List.set_cons_zero, List.set_cons_succ]
  refine h_take 4 (.agg (scs g).toArray) rfl 7 rfl (by kernel_rfl) (by kernel_rfl) (by kernel_rfl) (by kernel_rfl) (fun _ _ _ h => h) (fun w' hw => run_op_build _ _ rfl (scs g) (by simp only [List.map_toArray, List.map_cons, List.map_nil]; exact B1.out) w') hS2 ?_
  simp only [Act.put, List.setIfInBounds_toArray, List.set_cons_zero, List.set_cons_succ]
  refine h_one (i := 5) (by kernel_rfl) (o_skip rfl rfl (by kernel_rfl) (run_op_store _ _ _ rfl R 0 rfl (scs g) rfl _ _ hR2 (fitS GK.out) (scs_one _) (sz_sta GK.out)) ?_)
  have hR3 : Row (y2.setRow R (lay (scs zs) 0 (scs g)).toArray) R 35 (lay (scs zs) 0 (scs g)) := row_setRow hR2 _
  have hO3 : Only R y2 (y2.setRow R (lay (scs zs) 0 (scs g)).toArray) := Only.setRow _ _ _
  generalize y2.setRow R (lay (scs zs) 0 (scs g)).toArray = y3 at hR3 hO3 ⊢
  have hb3 : Below w.heap.size w y3 := below_only hb2 hO3 hwR hb2.size
  refine ⟨hS2.only hO3 hXR, ?_⟩
  refine wpAnyH_done (by kernel_rfl) ?_ _
  clear hS2 hR2 hO3 hb2
  go_wp2_with fail
  exact bodyPost_ret (v := .agg (scs g).toArray) (result_row (p := 2) (ty := 35) (u := 35) (by kernel_rfl) _ _ R (scs g) rfl (hR3.congr (allS GK.out)) (sz_sta GK.out)) rfl ⟨rfl, hb3⟩
/-- What is read of bytes: the state, and what goes wrong. -/
def rdS (b : List Nat) : Sta × Nat := if endR (qs b 22) ≠ 0 then (zs, endR (qs b 22)) else if SRt (staR b) then (staR b, 0) else (zs, 2)
theorem rdS_ok {b : List Nat} (h : AllLt 256 b) : (rdS b).1.Ok := by
  unfold rdS
  split
  · exact zs_ok
  · split
    · exact staR_ok h
    · exact zs_ok
structure ReadPost (w : World) (b : List Nat) (e : Ending) (w' : World) : Prop where
  ret : e = .returned (.tuple #[.agg (scs (rdS b).1).toArray, .int .i64 ((rdS b).2 : Int)])
  bel : Below w.heap.size w w'
set_option maxHeartbeats 1000000 in
set_option maxRecDepth 100000 in
theorem read_bad (b : List Nat) (p : Option Addr) (cap : Nat) (w : World) (hp : Rd w p b) (hn : p = none → b.length = 0 ∧ cap = 0) (hl : b.length ≤ 1000000) (hlt : AllLt 256 b) (he : endR (qs b 22) ≠ 0) :
    Calls Try.prog 72 #[.slice p b.length cap] w (ReadPost w b) := by
  have CR := Lib.hid (fun w0 (h : Rd w0 p b) => red_any b p cap w0 h hn hl hlt)
  have HP := Lib.hid hp
  obtain ⟨z, hz⟩ : ∃ z : Int, z = (endR (qs b 22) : Int) := ⟨_, rfl⟩
  obtain ⟨r, hr⟩ : ∃ r, r = staR b := ⟨_, rfl⟩
  have RK : Hid r.Ok := Lib.hid (by rw [hr]; exact staR_ok hlt)
  have hzn : (z == 0) = false := by rw [hz]; exact beq_eq_false_iff_ne.2 (by omega)
  have hzn2 : (z != 0) = true := by rw [hz]; simp; omega
  have HE := Lib.hid he; clear he
  have HZ := Lib.hid hz; have HR := Lib.hid hr
  clear hp hn hl hlt hz hr
  go_enter Try.func72, Try.ntmps72
  go_wp2_with (first
    | ((with_reducible refine at_slot 2 ?_); (refine arm_alloc (o := ⟨some 2, _, _, _, _, _⟩) rfl _ rfl (scs zs) z_sta ?_); intro R w1 Re hw1 nw1))
  refine (CR.out w1 (HP.out.below nw1.below)).mono ?_
  rintro e w2 ⟨rfl, hB2⟩
  rw [← HR.out, ← HZ.out]
  have hr2 := hw1.old hB2
  have bel2 : Below w.heap.size w w2 := below_step nw1.below nw1.below.size hB2
  have hRw : w.heap.size ≤ R := by have := Re.out; omega
  have hR2 := hr2.lt
  clear hw1 nw1 Re hB2
  go_wp2_with (first
    | ((with_reducible refine at_slot 4 ?_); (refine arm_alloc (o := ⟨some 4, _, _, _, _, _⟩) rfl _ rfl (scs zs) z_sta ?_); intro S w3 Se hw3 nw3; have hr3 := hr2.old nw3.below)
    | ((with_reducible refine arm_store (o := ⟨none, _, _, _, _, _⟩) rfl _ _ _ rfl S 0 rfl (scs r) rfl _ _ hw3 (fitS RK.out) (scs_one _) (sz_sta RK.out) ?_); intro w4 hw4 ow4 sw4; have hr4 := hr3.only ow4 (by have := Se.out; omega); have hs4 := hw4.congr (allS RK.out))
    | ((with_reducible refine at_slot 13 ?_); (refine arm_build (o := ⟨some 13, _, _, _, _, _⟩) rfl _ _ rfl (scs zs) (by simp only [List.map_toArray, List.map_nil]; exact built_sta0) ?_))
    | ((with_reducible refine arm_store (o := ⟨none, _, _, _, _, _⟩) rfl _ _ _ rfl R 0 rfl (scs zs) rfl _ _ hr4 (fitS zs_ok) (scs_one _) (sz_sta zs_ok) ?_); intro w9 hw9 ow9 sw9))
  have s3 := nw3.size; have e3 := Se.out
  have bel9 : Below w.heap.size w w4 := below_only (below_step bel2 bel2.size nw3.below) ow4 (by have := bel2.size; omega) (by have := bel2.size; omega)
  refine bodyPost_ret (result_row2 (p := 2) (u := 3) (ty := 35) (t := 35) (by kernel_rfl) _ _ R (scs zs) (.int .i64 z) rfl rfl (hw9.congr (allS zs_ok)) (sz_sta zs_ok)) rfl ⟨?_, ?_⟩
  · rw [HZ.out]; unfold rdS; rw [if_pos HE.out]
  · exact below_only bel9 ow9 hRw bel9.size
set_option maxHeartbeats 1000000 in
set_option maxRecDepth 100000 in
theorem read_form (b : List Nat) (p : Option Addr) (cap : Nat) (w : World) (hp : Rd w p b) (hn : p = none → b.length = 0 ∧ cap = 0) (hl : b.length ≤ 1000000) (hlt : AllLt 256 b) (he : endR (qs b 22) = 0) (hc : ¬ SRt (staR b)) :
    Calls Try.prog 72 #[.slice p b.length cap] w (ReadPost w b) := by
  have CR := Lib.hid (fun w0 (h : Rd w0 p b) => red_any b p cap w0 h hn hl hlt)
  have HP := Lib.hid hp
  obtain ⟨z, hz⟩ : ∃ z : Int, z = (endR (qs b 22) : Int) := ⟨_, rfl⟩
  obtain ⟨r, hr⟩ : ∃ r, r = staR b := ⟨_, rfl⟩
  have RK : Hid r.Ok := Lib.hid (by rw [hr]; exact staR_ok hlt)
  have hzn : (z == 0) = true := by rw [hz, he]; rfl
  have hzn2 : (z != 0) = false := by rw [hz, he]; rfl
  have HE := Lib.hid he; have HC := Lib.hid hc
  have RC : Hid (∀ w0, Calls Try.prog 33 #[.agg (scs r).toArray] w0 fun e w' => e = .returned (.bool false) ∧ Below w0.heap.size w0 w') := Lib.hid (fun w0 => by have := right_any r w0 RK.out; rw [decide_eq_false (show ¬ SRt r from hr ▸ hc)] at this; exact this)
  clear he hc
  have HZ := Lib.hid hz; have HR := Lib.hid hr
  clear hp hn hl hlt hz hr
  go_enter Try.func72, Try.ntmps72
  go_wp2_with (first
    | ((with_reducible refine at_slot 2 ?_); (refine arm_alloc (o := ⟨some 2, _, _, _, _, _⟩) rfl _ rfl (scs zs) z_sta ?_); intro R w1 Re hw1 nw1))
  refine (CR.out w1 (HP.out.below nw1.below)).mono ?_
  rintro e w2 ⟨rfl, hB2⟩
  rw [← HR.out, ← HZ.out]
  have hr2 := hw1.old hB2
  have bel2 : Below w.heap.size w w2 := below_step nw1.below nw1.below.size hB2
  have hRw : w.heap.size ≤ R := by have := Re.out; omega
  have hR2 := hr2.lt
  clear hw1 nw1 Re hB2
  go_wp2_with (first
    | ((with_reducible refine at_slot 4 ?_); (refine arm_alloc (o := ⟨some 4, _, _, _, _, _⟩) rfl _ rfl (scs zs) z_sta ?_); intro S w3 Se hw3 nw3; have hr3 := hr2.old nw3.below)
    | ((with_reducible refine arm_store (o := ⟨none, _, _, _, _, _⟩) rfl _ _ _ rfl S 0 rfl (scs r) rfl _ _ hw3 (fitS RK.out) (scs_one _) (sz_sta RK.out) ?_); intro w4 hw4 ow4 sw4; have hr4 := hr3.only ow4 (by have := Se.out; omega); have hs4 := hw4.congr (allS RK.out))
    | ((with_reducible refine at_slot 15 ?_); (refine arm_load (o := ⟨some 15, _, _, _, _, _⟩) rfl _ _ rfl S 0 rfl (scs r) ((Has.refl _).range hs4) (sz_sta RK.out) ?_)))
  have s3 := nw3.size; have e3 := Se.out
  have bel4 : Below w.heap.size w w4 := below_only (below_step bel2 bel2.size nw3.below) ow4 (by have := bel2.size; omega) (by have := bel2.size; omega)
  clear s3 e3 hr2 bel2 hr3 hw3 nw3 hw4 ow4 sw4 Se
  refine (RC.out w4).mono ?_
  rintro e w5 ⟨rfl, hB5⟩
  have hr5 := hr4.old hB5; have hs5 := hs4.old hB5
  have bel9 : Below w.heap.size w w5 := below_step bel4 bel4.size hB5
  clear hr4 hs4 bel4 hB5
  go_wp2_with (first
    | ((with_reducible refine at_slot 18 ?_); (refine arm_build (o := ⟨some 18, _, _, _, _, _⟩) rfl _ _ rfl (scs zs) (by simp only [List.map_toArray, List.map_nil]; exact built_sta0) ?_))
    | ((with_reducible refine arm_store (o := ⟨none, _, _, _, _, _⟩) rfl _ _ _ rfl R 0 rfl (scs zs) rfl _ _ hr5 (fitS zs_ok) (scs_one _) (sz_sta zs_ok) ?_); intro w9 hw9 ow9 sw9))
  refine bodyPost_ret (result_row2 (p := 2) (u := 3) (ty := 35) (t := 35) (by kernel_rfl) _ _ R (scs zs) (.int .i64 2) rfl rfl (hw9.congr (allS zs_ok)) (sz_sta zs_ok)) rfl ⟨?_, ?_⟩
  · unfold rdS; rw [if_neg (by rw [HE.out]; decide), if_neg HC.out]; rfl
  · exact below_only bel9 ow9 hRw bel9.size
set_option maxHeartbeats 1000000 in
set_option maxRecDepth 100000 in
theorem read_good (b : List Nat) (p : Option Addr) (cap : Nat) (w : World) (hp : Rd w p b) (hn : p = none → b.length = 0 ∧ cap = 0) (hl : b.length ≤ 1000000) (hlt : AllLt 256 b) (he : endR (qs b 22) = 0) (hc : SRt (staR b)) :
    Calls Try.prog 72 #[.slice p b.length cap] w (ReadPost w b) := by
  have CR := Lib.hid (fun w0 (h : Rd w0 p b) => red_any b p cap w0 h hn hl hlt)
  have HP := Lib.hid hp
  obtain ⟨z, hz⟩ : ∃ z : Int, z = (endR (qs b 22) : Int) := ⟨_, rfl⟩
  obtain ⟨r, hr⟩ : ∃ r, r = staR b := ⟨_, rfl⟩
  have RK : Hid r.Ok := Lib.hid (by rw [hr]; exact staR_ok hlt)
  have hzn : (z == 0) = true := by rw [hz, he]; rfl
  have hzn2 : (z != 0) = false := by rw [hz, he]; rfl
  have HE := Lib.hid he; have HC := Lib.hid hc
  have RC : Hid (∀ w0, Calls Try.prog 33 #[.agg (scs r).toArray] w0 fun e w' => e = .returned (.bool true) ∧ Below w0.heap.size w0 w') := Lib.hid (fun w0 => by have := right_any r w0 RK.out; rw [decide_eq_true (show SRt r from hr ▸ hc)] at this; exact this)
  clear he hc
  have HZ := Lib.hid hz; have HR := Lib.hid hr
  clear hp hn hl hlt hz hr
  go_enter Try.func72, Try.ntmps72
  go_wp2_with (first
    | ((with_reducible refine at_slot 2 ?_); (refine arm_alloc (o := ⟨some 2, _, _, _, _, _⟩) rfl _ rfl (scs zs) z_sta ?_); intro R w1 Re hw1 nw1))
  refine (CR.out w1 (HP.out.below nw1.below)).mono ?_
  rintro e w2 ⟨rfl, hB2⟩
  rw [← HR.out, ← HZ.out]
  have hr2 := hw1.old hB2
  have bel2 : Below w.heap.size w w2 := below_step nw1.below nw1.below.size hB2
  have hRw : w.heap.size ≤ R := by have := Re.out; omega
  have hR2 := hr2.lt
  clear hw1 nw1 Re hB2
  go_wp2_with (first
    | ((with_reducible refine at_slot 4 ?_); (refine arm_alloc (o := ⟨some 4, _, _, _, _, _⟩) rfl _ rfl (scs zs) z_sta ?_); intro S w3 Se hw3 nw3; have hr3 := hr2.old nw3.below)
    | ((with_reducible refine arm_store (o := ⟨none, _, _, _, _, _⟩) rfl _ _ _ rfl S 0 rfl (scs r) rfl _ _ hw3 (fitS RK.out) (scs_one _) (sz_sta RK.out) ?_); intro w4 hw4 ow4 sw4; have hr4 := hr3.only ow4 (by have := Se.out; omega); have hs4 := hw4.congr (allS RK.out))
    | ((with_reducible refine at_slot 15 ?_); (refine arm_load (o := ⟨some 15, _, _, _, _, _⟩) rfl _ _ rfl S 0 rfl (scs r) ((Has.refl _).range hs4) (sz_sta RK.out) ?_)))
  have s3 := nw3.size; have e3 := Se.out
  have bel4 : Below w.heap.size w w4 := below_only (below_step bel2 bel2.size nw3.below) ow4 (by have := bel2.size; omega) (by have := bel2.size; omega)
  clear s3 e3 hr2 bel2 hr3 hw3 nw3 hw4 ow4 sw4 Se
  refine (RC.out w4).mono ?_
  rintro e w5 ⟨rfl, hB5⟩
  have hr5 := hr4.old hB5; have hs5 := hs4.old hB5
  have bel9 : Below w.heap.size w w5 := below_step bel4 bel4.size hB5
  clear hr4 hs4 bel4 hB5
  go_wp2_with (first
    | ((with_reducible refine at_slot 19 ?_); (refine arm_load (o := ⟨some 19, _, _, _, _, _⟩) rfl _ _ rfl S 0 rfl (scs r) ((Has.refl _).range hs5) (sz_sta RK.out) ?_))
    | ((with_reducible refine arm_store (o := ⟨none, _, _, _, _, _⟩) rfl _ _ _ rfl R 0 rfl (scs r) rfl _ _ hr5 (fitS RK.out) (scs_one _) (sz_sta RK.out) ?_); intro w9 hw9 ow9 sw9))
  refine bodyPost_ret (result_row2 (p := 2) (u := 3) (ty := 35) (t := 35) (by kernel_rfl) _ _ R (scs r) (.int .i64 0) rfl rfl (hw9.congr (allS RK.out)) (sz_sta RK.out)) rfl ⟨?_, ?_⟩
  · unfold rdS; rw [if_neg (by rw [HE.out]; decide), if_pos HC.out, HR.out]; rfl
  · exact below_only bel9 ow9 hRw bel9.size
theorem sread_any (b : List Nat) (p : Option Addr) (cap : Nat) (w : World) (hp : Rd w p b) (hn : p = none → b.length = 0 ∧ cap = 0) (hl : b.length ≤ 1000000) (hlt : AllLt 256 b) :
    Calls Try.prog 72 #[.slice p b.length cap] w (ReadPost w b) := by
  by_cases he : endR (qs b 22) = 0
  · by_cases hc : SRt (staR b)
    · exact read_good b p cap w hp hn hl hlt he hc
    · exact read_form b p cap w hp hn hl hlt he hc
  · exact read_bad b p cap w hp hn hl hlt he
end Go.Proofs.Ytghogoijjaiccaa.Sa
