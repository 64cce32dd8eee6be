/-
  The walk of layer 9's statement StateBack over this seat's translation, out of the contracts: it returns true, and changes nothing that was there.
-/
import Derived.Test.YtddnolppjlbibaaDoorStaAwake
import Derived.Test.YtddnolppjlbibaaDoorWireRefAll
namespace Go.Proofs.YtddnolppjlbibaaDoor.Sa
open Go.ChangeShapes Go.WideShapes Go.ChangeAt Go.RowKit Go.Proofs.YtddnolppjlbibaaDoor.Mem Go.Proofs.YtddnolppjlbibaaDoor.Bt Go.Proofs.YtddnolppjlbibaaDoor.Wi Go.Proofs.YtddnolppjlbibaaDoor.Tg Go.Proofs.YtddnolppjlbibaaDoor.Sha
open Go.Proofs.YtddnolppjlbibaaDoor.Ep (H32 Dat zh zh_ok num32 dcs dcs_len dcs_one zd zd_ok Has h_len one_app one_num szH)
set_option linter.unusedVariables false
set_option linter.unusedSimpArgs false

/-- Bytes of a state. -/
structure BPost (w : World) (bs : List Nat) (e : Ending) (w' : World) : Prop where
  ex : ∃ q c, e = .returned (.slice q 396 c) ∧ Bt.Own w' w.heap.size q c bs
  bel : Below w.heap.size w w'
theorem bytes396 (s : Sta) (w : World) (ok : s.Ok) : Calls Tryd.prog 13 #[.agg (scs s).toArray] w (BPost w (staB s)) :=
  (bytes_any s w ok).mono fun e w' h => by
    obtain ⟨⟨q, c, rfl, hO⟩, hB⟩ := h
    exact ⟨⟨q, c, by rw [staB_len ok], hO⟩, hB⟩
structure RPost (w : World) (z : Sta) (n : Int) (e : Ending) (w' : World) : Prop where
  ret : e = .returned (.tuple #[.agg (scs z).toArray, .int .i64 n])
  bel : Below w.heap.size w w'
theorem read_at (b : List Nat) (n : Nat) (hnb : n = b.length) (p : Option Addr) (cap : Nat) (w : World) (hp : Rd w p b) (hn : p = none → b.length = 0 ∧ cap = 0) (hl : b.length ≤ 1000000) (hlt : AllLt 256 b) :
    Calls Tryd.prog 17 #[.slice p n cap] w (RPost w (rdS b).1 ((rdS b).2 : Int)) := by
  subst hnb
  exact (sread_any b p cap w hp hn hl hlt).mono fun e w' h => ⟨h.ret, h.bel⟩
theorem rd_ok {b : List Nat} (h : (rdS b).2 = 0) (hlt : AllLt 256 b) : SRt (rdS b).1 ∧ staB (rdS b).1 = b := by
  have hl : b.length = 396 := by
    rcases Nat.lt_trichotomy b.length 396 with h1 | h1 | h1
    · rw [rd_short h1] at h; cases h
    · exact h1
    · rw [rd_long h1] at h; cases h
  unfold rdS at h ⊢
  rw [end_all hl] at h ⊢
  rw [if_neg (by decide)] at h ⊢
  by_cases hc : SRt (staR b)
  · rw [if_pos hc]
    exact ⟨hc, bytes_back hl hlt⟩
  · rw [if_neg hc] at h
    cases h
theorem own_some {w : World} {base c : Nat} {q : Option Addr} {bs : List Nat} (h : Bt.Own w base q c bs) (hl : bs.length = 396) : q = none → False := fun e => by
  have := own_none h e
  omega
set_option maxHeartbeats 4000000 in
set_option maxRecDepth 100000 in
theorem back_long (s t : Sta) (b : List Nat) (p : Option Addr) (cap : Nat) (w : World) (ks1 : s.Ok) (kt : t.Ok) (hp : Rd w p b) (hn : p = none → b.length = 0 ∧ cap = 0) (hlt : AllLt 256 b) (hk : w.rangeAt 0 0 (u32s ks)) (hl : 1000 < b.length) :
    Calls Tryd.prog 5 #[.agg (scs s).toArray, .agg (scs t).toArray, .slice p b.length cap] w fun e w' => e = .returned (.bool true) ∧ Below w.heap.size w w' := by
  have hk1 : 0 < w.heap.size := range_lt hk (by simp [u32s, ks])
  have HKW : Hid (∀ w', Below w.heap.size w w' → w'.rangeAt 0 0 (u32s ks)) := Lib.hid fun w' hb => range_block hk (hb.block _ hk1)
  have KS := Lib.hid ks1; have KT := Lib.hid kt; have HP := Lib.hid hp; have HN := Lib.hid hn; have HLT := Lib.hid hlt
  have hgt : decide ((1000 : Int) < (b.length : Int)) = true := decide_eq_true (by omega)
  clear ks1 kt hp hn hlt hk hl
  go_enter Tryd.func5, Tryd.ntmps5
  go_wp2_with (first
    | ((with_reducible refine at_slot 3 ?_); (refine arm_box (o := ⟨some 3, _, _, _, _, _⟩) rfl _ _ rfl (scs s) rfl ?_); intro S w1 Se hw1 nw1)
    | ((with_reducible refine at_slot 4 ?_); (refine arm_box (o := ⟨some 4, _, _, _, _, _⟩) rfl _ _ rfl (scs t) rfl ?_); intro T w2 Te hw2 nw2))
  have bel2 : Below w.heap.size w w2 := below_step nw1.below nw1.below.size nw2.below
  refine (awake_any w2 (HKW.out w2 bel2)).mono ?_
  rintro e w3 ⟨rfl, hB3⟩
  have bel3 : Below w.heap.size w w3 := below_step bel2 bel2.size hB3
  have hS3 := (hw1.old nw2.below).old hB3
  have hT3 := hw2.old hB3
  clear hw1 hw2 nw1 nw2 bel2 hB3 Se Te
  clear hS3 hT3
  go_wp2_with fail
  go_ret
  exact ⟨rfl, bel3⟩
set_option maxHeartbeats 4000000 in
set_option maxRecDepth 100000 in
theorem back_rg (s t : Sta) (b : List Nat) (p : Option Addr) (cap : Nat) (w : World) (ks1 : s.Ok) (kt : t.Ok) (hp : Rd w p b) (hn : p = none → b.length = 0 ∧ cap = 0) (hlt : AllLt 256 b) (hk : w.rangeAt 0 0 (u32s ks)) (hl : b.length ≤ 1000) (hc : SRt s) (hg : (rdS b).2 = 0) :
    Calls Tryd.prog 5 #[.agg (scs s).toArray, .agg (scs t).toArray, .slice p b.length cap] w fun e w' => e = .returned (.bool true) ∧ Below w.heap.size w w' := by
  have hk1 : 0 < w.heap.size := range_lt hk (by simp [u32s, ks])
  have HKW : Hid (∀ w', Below w.heap.size w w' → w'.rangeAt 0 0 (u32s ks)) := Lib.hid fun w' hb => range_block hk (hb.block _ hk1)
  have KS := Lib.hid ks1; have KT := Lib.hid kt; have HP := Lib.hid hp; have HN := Lib.hid hn; have HLT := Lib.hid hlt
  have hgt : decide ((1000 : Int) < (b.length : Int)) = false := decide_eq_false (by omega)
  have CB1 := Lib.hid (fun w0 => bytes396 s w0 ks1)
  have CB2 := Lib.hid (fun w0 => bytes396 t w0 kt)
  have hl1 := staB_len ks1; have hl2 := staB_len kt
  have hlt1 : AllLt 256 (staB s) := bP_lt ks1 22
  have he := cells_iff ks1 kt
  have hrb := rd_back ks1
  rw [if_pos hc] at hrb
  have CR := Lib.hid (fun w0 => right_any s w0 ks1)
  rw [decide_eq_true hc] at CR
  obtain ⟨bs, hbs⟩ : ∃ bs, bs = staB s := ⟨_, rfl⟩
  obtain ⟨bt, hbt⟩ : ∃ bt, bt = staB t := ⟨_, rfl⟩
  rw [← hbs] at CB1 hl1 hlt1 he hrb
  rw [← hbt] at CB2 hl2 he
  obtain ⟨v, hv⟩ : ∃ v : Bool, v = decide (bs = bt) := ⟨_, rfl⟩
  rw [← hv] at he
  have HV := Lib.hid hv.symm; have HE := Lib.hid he; have HL1 := Lib.hid hl1; have HL2 := Lib.hid hl2
  have CRD := Lib.hid (fun (q : Option Addr) (c : Nat) (w0 : World) (h1 : Rd w0 q bs) (h2 : q = none → bs.length = 0 ∧ c = 0) => by
    have h := read_at bs 396 hl1.symm q c w0 h1 h2 (by rw [hl1]; omega) hlt1
    rw [hrb] at h
    exact h)
  have CSH := Lib.hid (fun (q : Option Addr) (c : Nat) (w0 : World) (h1 : Rd w0 q (bs.take 395)) (h2 : q = none → (bs.take 395).length = 0 ∧ c = 0) => by
    have h := read_at (bs.take 395) 395 (by rw [List.length_take, hl1]; rfl) q c w0 h1 h2 (by rw [List.length_take, hl1]; omega) (fun x hx => hlt1 x (List.mem_of_mem_take hx))
    rw [rd_short (by rw [List.length_take, hl1]; omega)] at h
    exact h)
  have CLO := Lib.hid (fun (q : Option Addr) (c : Nat) (w0 : World) (h1 : Rd w0 q (bs ++ [0])) (h2 : q = none → (bs ++ [0]).length = 0 ∧ c = 0) => by
    have h := read_at (bs ++ [0]) 397 (by rw [List.length_append, hl1]; rfl) q c w0 h1 h2 (by rw [List.length_append, hl1]; simp) (fun x hx => by
      rcases List.mem_append.1 hx with h | h
      · exact hlt1 x h
      · rw [List.mem_singleton.1 h]; decide)
    rw [rd_long (by rw [List.length_append, hl1]; simp)] at h
    exact h)
  have CRB := Lib.hid (fun (w0 : World) (h1 : Rd w0 p b) => read_at b b.length rfl p cap w0 h1 hn (by omega) hlt)
  obtain ⟨u, hu⟩ : ∃ u, u = (rdS b).1 := ⟨_, rfl⟩
  have hku : u.Ok := by rw [hu]; exact rdS_ok hlt
  obtain ⟨f, hf⟩ : ∃ f : Int, f = ((rdS b).2 : Int) := ⟨_, rfl⟩
  rw [← hu, ← hf] at CRB
  have KU := Lib.hid hku
  have hfz : f = 0 := by rw [hf, hg]; rfl
  have hgd := rd_ok hg hlt
  rw [← hu] at hgd
  have CU := Lib.hid (fun w0 => right_any u w0 hku)
  rw [decide_eq_true hgd.1] at CU
  have CBU := Lib.hid (fun w0 => bytes396 u w0 hku)
  rw [hgd.2] at CBU
  have HLB : Hid (b.length = 396) := Lib.hid (by rw [← hgd.2]; exact staB_len hku)
  subst hfz
  clear hf hgd
  clear ks1 kt hp hn hlt hk hl hl1 hl2 hlt1 he hrb hv hbs hbt hc hg hu hku
  go_enter Tryd.func5, Tryd.ntmps5
  go_wp2_with (first
    | ((with_reducible refine at_slot 3 ?_); (refine arm_box (o := ⟨some 3, _, _, _, _, _⟩) rfl _ _ rfl (scs s) rfl ?_); intro S w1 Se hw1 nw1)
    | ((with_reducible refine at_slot 4 ?_); (refine arm_box (o := ⟨some 4, _, _, _, _, _⟩) rfl _ _ rfl (scs t) rfl ?_); intro T w2 Te hw2 nw2))
  have bel2 : Below w.heap.size w w2 := below_step nw1.below nw1.below.size nw2.below
  refine (awake_any w2 (HKW.out w2 bel2)).mono ?_
  rintro e w3 ⟨rfl, hB3⟩
  have bel3 : Below w.heap.size w w3 := below_step bel2 bel2.size hB3
  have hS3 := (hw1.old nw2.below).old hB3
  have hT3 := hw2.old hB3
  clear hw1 hw2 nw1 nw2 bel2 hB3 Se Te
  go_wp2_with fail
  refine wp_region_held (S := fun w' => Row w' S 35 (scs s) ∧ Row w' T 35 (scs t)) (by kernel_rfl) ?_
  change wpAnyH _ _ _ _ _ _ _ _ w3.drew
  have hS : Row w3.drew S 35 (scs s) ∧ Row w3.drew T 35 (scs t) := ⟨hS3, hT3⟩
  have belz : Below w.heap.size w w3.drew := bel3.trans ((Below.refl _ _).drew)
  generalize w3.drew = wz at hS belz ⊢
  clear hS3 hT3 bel3
  refine h_take 0 (.agg (scs s).toArray) rfl 22 rfl (by kernel_rfl) (by kernel_rfl) (by kernel_rfl) (by kernel_rfl) (fun _ _ _ h => h) (fun w' hw => run_op_load _ _ rfl S 0 rfl (scs s) ((Has.refl _).range hw.1) (sz_sta KS.out)) hS ?_
  simp only [Act.put, List.setIfInBounds_toArray, List.set_cons_zero, List.set_cons_succ]
  refine h_take 2 (.agg (scs t).toArray) rfl 24 rfl (by kernel_rfl) (by kernel_rfl) (by kernel_rfl) (by kernel_rfl) (fun _ _ _ h => h) (fun w' hw => run_op_load _ _ rfl T 0 rfl (scs t) ((Has.refl _).range hw.2) (sz_sta KT.out)) hS ?_
  simp only [Act.put, List.setIfInBounds_toArray, List.set_cons_zero, List.set_cons_succ]
  refine h_one (i := 1) (by kernel_rfl) (o_call rfl 23 rfl (by kernel_rfl) (run_op_call 13 _ _ rfl #[.agg (scs s).toArray] (by simp only [List.map_toArray, List.map_cons, List.map_nil]; rfl) Tryd.func13 (by kernel_rfl) (by kernel_rfl) _) (CB1.out wz) ?_)
  rintro e w4 ⟨⟨q1, c1, rfl, hO1⟩, hB4⟩
  have hS4 : Row w4 S 35 (scs s) ∧ Row w4 T 35 (scs t) := ⟨hS.1.old hB4, hS.2.old hB4⟩
  have bel4 : Below w.heap.size w w4 := below_step belz belz.size hB4
  refine ⟨_, rfl, hS4, ?_⟩
  clear hS belz hB4
  simp only [Act.put, List.setIfInBounds_toArray, List.set_cons_zero, List.set_cons_succ]
  refine h_one (i := 3) (by kernel_rfl) (o_call rfl 25 rfl (by kernel_rfl) (run_op_call 13 _ _ rfl #[.agg (scs t).toArray] (by simp only [List.map_toArray, List.map_cons, List.map_nil]; rfl) Tryd.func13 (by kernel_rfl) (by kernel_rfl) _) (CB2.out w4) ?_)
  rintro e w5 ⟨⟨q2, c2, rfl, hO2⟩, hB5⟩
  have hS5 : Row w5 S 35 (scs s) ∧ Row w5 T 35 (scs t) := ⟨hS4.1.old hB5, hS4.2.old hB5⟩
  have bel5 : Below w.heap.size w w5 := below_step bel4 bel4.size hB5
  refine ⟨_, rfl, hS5, ?_⟩
  have HO1 := Lib.hid (hO1.below hB5); have HO2 := Lib.hid hO2
  clear hS4 bel4 hB5 hO1 hO2
  simp only [Act.put, List.setIfInBounds_toArray, List.set_cons_zero, List.set_cons_succ]
  refine h_take 4 (.slice q1 396 c1) rfl 7 rfl (by kernel_rfl) (by kernel_rfl) (by kernel_rfl) (by kernel_rfl) (fun _ _ _ h => h) (fun w' _ => by kernel_rfl) hS5 ?_
  simp only [Act.put, List.setIfInBounds_toArray, List.set_cons_zero, List.set_cons_succ]
  refine h_take 5 (.slice q2 396 c2) rfl 8 rfl (by kernel_rfl) (by kernel_rfl) (by kernel_rfl) (by kernel_rfl) (fun _ _ _ h => h) (fun w' _ => by kernel_rfl) hS5 ?_
  simp only [Act.put, List.setIfInBounds_toArray, List.set_cons_zero, List.set_cons_succ]
  refine wpAnyH_done (by kernel_rfl) ?_ _
  have HS := Lib.hid hS5.1; have HT := Lib.hid hS5.2
  clear hS5
  go_wp2_with fail
  refine wp_region_quiet (C := fun w' => Below w5.heap.size w5 w') (by kernel_rfl) (by kernel_rfl) ((Below.refl _ _).drew) ?_
  rw [List.toList_toArray]
  refine q_value 26 rfl (.slice q1 396 c1) (by kernel_rfl) (fun w' _ => by kernel_rfl) ?_
  simp only [Act.put, List.setIfInBounds_toArray, List.set_cons_zero, List.set_cons_succ]
  refine q_value 27 rfl (.slice q2 396 c2) (by kernel_rfl) (fun w' _ => by kernel_rfl) ?_
  simp only [Act.put, List.setIfInBounds_toArray, List.set_cons_zero, List.set_cons_succ]
  refine q_call 28 rfl (.bool v) 12 #[.slice q1 396 c1, .slice q2 396 c2] (by kernel_rfl) (fun w' _ => run_op_call _ _ _ rfl _ (by simp only [List.map_toArray, List.map_cons, List.map_nil]; rfl) Tryd.func12 (by kernel_rfl) (by kernel_rfl) w') (fun w' hC => (HV.out ▸ same_at bs bt q1 q2 c1 c2 396 396 HL1.out.symm HL2.out.symm w' (HO1.out.rd.below hC) (HO2.out.rd.below hC) (by rw [HL1.out]; omega) (by rw [HL2.out]; omega)).mono fun e w'' h => ⟨h.1, below_step hC hC.size h.2⟩) ?_
  simp only [Act.put, List.setIfInBounds_toArray, List.set_cons_zero, List.set_cons_succ]
  refine q_value 29 rfl (.agg (scs s).toArray) (by kernel_rfl) (fun w' hC => run_op_load _ _ rfl S 0 rfl (scs s) ((Has.refl _).range (HS.out.old hC)) (sz_sta KS.out)) ?_
  simp only [Act.put, List.setIfInBounds_toArray, List.set_cons_zero, List.set_cons_succ]
  refine q_value 30 rfl (.agg (scs t).toArray) (by kernel_rfl) (fun w' hC => run_op_load _ _ rfl T 0 rfl (scs t) ((Has.refl _).range (HT.out.old hC)) (sz_sta KT.out)) ?_
  simp only [Act.put, List.setIfInBounds_toArray, List.set_cons_zero, List.set_cons_succ]
  refine q_value 31 rfl (.bool v) (by kernel_rfl) (fun w' _ => run_op_eqlS KS.out KT.out _ _ _ rfl rfl rfl v HE.out w') ?_
  simp only [Act.put, List.setIfInBounds_toArray, List.set_cons_zero, List.set_cons_succ]
  refine q_value 32 rfl (.bool false) (by kernel_rfl) (fun w' _ => by cases v <;> kernel_rfl) ?_
  simp only [Act.put, List.setIfInBounds_toArray, List.set_cons_zero, List.set_cons_succ]
  refine q_value 33 rfl (.bool false) (by kernel_rfl) (fun w' _ => by kernel_rfl) ?_
  simp only [Act.put, List.setIfInBounds_toArray, List.set_cons_zero, List.set_cons_succ]
  refine q_value 34 rfl (.slice q1 396 c1) (by kernel_rfl) (fun w' _ => by kernel_rfl) ?_
  simp only [Act.put, List.setIfInBounds_toArray, List.set_cons_zero, List.set_cons_succ]
  refine q_value 35 rfl (.int .i64 396) (by kernel_rfl) (fun w' _ => by kernel_rfl) ?_
  simp only [Act.put, List.setIfInBounds_toArray, List.set_cons_zero, List.set_cons_succ]
  refine q_value 36 rfl (.slice q2 396 c2) (by kernel_rfl) (fun w' _ => by kernel_rfl) ?_
  simp only [Act.put, List.setIfInBounds_toArray, List.set_cons_zero, List.set_cons_succ]
  refine q_value 37 rfl (.int .i64 396) (by kernel_rfl) (fun w' _ => by kernel_rfl) ?_
  simp only [Act.put, List.setIfInBounds_toArray, List.set_cons_zero, List.set_cons_succ]
  refine q_value 38 rfl (.bool false) (by kernel_rfl) (fun w' _ => by kernel_rfl) ?_
  simp only [Act.put, List.setIfInBounds_toArray, List.set_cons_zero, List.set_cons_succ]
  refine q_value 39 rfl (.bool false) (by kernel_rfl) (fun w' _ => by kernel_rfl) ?_
  simp only [Act.put, List.setIfInBounds_toArray, List.set_cons_zero, List.set_cons_succ]
  refine q_value 40 rfl (.bool false) (by kernel_rfl) (fun w' _ => by kernel_rfl) ?_
  simp only [Act.put, List.setIfInBounds_toArray, List.set_cons_zero, List.set_cons_succ]
  refine q_value 41 rfl (.slice q1 396 c1) (by kernel_rfl) (fun w' _ => by kernel_rfl) ?_
  simp only [Act.put, List.setIfInBounds_toArray, List.set_cons_zero, List.set_cons_succ]
  refine q_value 42 rfl (.int .i64 396) (by kernel_rfl) (fun w' _ => by kernel_rfl) ?_
  simp only [Act.put, List.setIfInBounds_toArray, List.set_cons_zero, List.set_cons_succ]
  refine q_value 43 rfl (.bool false) (by kernel_rfl) (fun w' _ => by kernel_rfl) ?_
  simp only [Act.put, List.setIfInBounds_toArray, List.set_cons_zero, List.set_cons_succ]
  refine q_value 44 rfl (.bool false) (by kernel_rfl) (fun w' _ => by kernel_rfl) ?_
  simp only [Act.put, List.setIfInBounds_toArray, List.set_cons_zero, List.set_cons_succ]
  refine wpQuiet_nil ?_
  intro w6 hC
  have hS6 := HS.out.old hC
  have bel6 : Below w.heap.size w w6 := below_step bel5 bel5.size hC
  have HO6 := Lib.hid (HO1.out.below hC)
  clear bel5 hC HS HT HO2 HO1 HV HE
  go_wp2_with fail
  refine (CRD.out q1 c1 w6 HO6.out.rd (own_none HO6.out)).mono ?_
  rintro e w7 ⟨rfl, hB7⟩
  have hS7 := hS6.old hB7
  have bel7 : Below w.heap.size w w7 := below_step bel6 bel6.size hB7
  have HO7 := Lib.hid (HO6.out.below hB7)
  clear hS6 bel6 hB7 HO6
  go_wp2_with (first
    | ((with_reducible refine at_slot 9 ?_); (refine arm_alloc (o := ⟨some 9, _, _, _, _, _⟩) rfl _ rfl (scs zs) z_sta ?_); intro G w8 Ge hw8 nw8)
    | ((with_reducible refine arm_store (o := ⟨none, _, _, _, _, _⟩) rfl _ _ _ rfl G 0 rfl (scs s) rfl _ _ hw8 (fitS KS.out) (scs_one _) (sz_sta KS.out) ?_); intro w9 hw9 ow9 sw9; have hS9 := (hS7.old nw8.below).only ow9 (by have := hS7.lt; have := Ge.out; omega); have hG9 := hw9.congr (allS KS.out))
    | ((with_reducible refine at_slot 50 ?_); (refine arm_load (o := ⟨some 50, _, _, _, _, _⟩) rfl _ _ rfl S 0 rfl (scs s) ((Has.refl _).range hS9) (sz_sta KS.out) ?_)))
  have eG := Ge.out; have zG := nw8.size; have zw := bel7.size
  have bel9 : Below w.heap.size w w9 := below_only (below_step bel7 zw nw8.below) ow9 (by omega) (by omega)
  have hx79 : Below w7.heap.size w7 w9 := below_only nw8.below ow9 (by omega) (by omega)
  have HO9 := Lib.hid (HO7.out.below hx79)
  clear hS7 bel7 eG zG zw hw8 nw8 hw9 ow9 sw9 Ge hx79 HO7
  refine (CR.out w9).mono ?_
  rintro e wa ⟨rfl, hBa⟩
  have hSa := hS9.old hBa; have hGa := hG9.old hBa
  have bela : Below w.heap.size w wa := below_step bel9 bel9.size hBa
  have HOa := Lib.hid (HO9.out.below hBa)
  clear hS9 hG9 bel9 hBa HO9
  go_wp2_with (first
    | ((with_reducible refine at_slot 53 ?_); (refine arm_want (.agg (scs s).toArray) 53 rfl (by kernel_rfl) (run_op_load _ _ rfl G 0 rfl (scs s) ((Has.refl _).range hGa) (sz_sta KS.out)) ?_))
    | ((with_reducible refine at_slot 54 ?_); (refine arm_want (.agg (scs s).toArray) 54 rfl (by kernel_rfl) (run_op_load _ _ rfl S 0 rfl (scs s) ((Has.refl _).range hSa) (sz_sta KS.out)) ?_))
    | ((with_reducible refine at_slot 55 ?_); (refine arm_want (.bool (!true)) 55 rfl (by kernel_rfl) (run_op_neqS KS.out KS.out _ _ _ rfl rfl rfl true (by simp) _) ?_))
    | ((with_reducible refine at_slot 62 ?_); (refine arm_want (.agg (scs s).toArray) 62 rfl (by kernel_rfl) (run_op_load _ _ rfl S 0 rfl (scs s) ((Has.refl _).range hSa) (sz_sta KS.out)) ?_)))
  refine (CR.out wa).mono ?_
  rintro e wb ⟨rfl, hBb⟩
  have hGb := hGa.old hBb
  have belb : Below w.heap.size w wb := below_step bela bela.size hBb
  have HOb := Lib.hid (HOa.out.below hBb)
  have hcap : 395 ≤ c1 := by have := HOb.out.at.1; rw [HL1.out] at this; omega
  clear hSa hGa bela hBb HOa
  go_wp2_with (first
    | ((with_reducible refine at_slot 80 ?_); (refine arm_headS (o := ⟨some 80, _, _, _, _, _⟩) rfl _ _ _ rfl 5 (by kernel_rfl) (by kernel_rfl) q1 396 c1 rfl .i64 395 rfl 395 rfl hcap ?_)))
  refine (CSH.out q1 c1 wb (Rd_take HOb.out.rd 395) (fun e => (own_some HOb.out HL1.out e).elim)).mono ?_
  rintro e wc ⟨rfl, hBc⟩
  have belc : Below w.heap.size w wc := below_step belb belb.size hBc
  have HOc := Lib.hid (HOb.out.below hBc)
  clear belb hBc HOb hGb
  go_wp2_with (first
    | ((with_reducible refine at_slot 11 ?_); (refine arm_alloc (o := ⟨some 11, _, _, _, _, _⟩) rfl _ rfl (scs zs) z_sta ?_); intro H wd He hwd nwd)
    | ((with_reducible refine arm_store (o := ⟨none, _, _, _, _, _⟩) rfl _ _ _ rfl H 0 rfl (scs zs) rfl _ _ hwd (fitS zs_ok) (scs_one _) (sz_sta zs_ok) ?_); intro we hwe owe swe)
    | ((with_reducible refine at_slot 85 ?_); (refine arm_buildSlice (o := ⟨some 85, _, _, _, _, _⟩) rfl 0 _ rfl [] #[] (by simp) bs0 ?_); intro b1 wf hb1 hR1 hN1)
    | ((with_reducible refine at_slot 87 ?_); (refine arm_append2 (o := ⟨some 87, _, _, _, _, _⟩) rfl _ _ rfl we.heap.size (some ⟨b1, 0, none⟩) 0 0 [] rfl rfl (own_new hR1 (by have := hb1.out; omega)) q1 396 c1 bs rfl HL1.out.symm (fun e => (own_some HOc.out HL1.out e).elim) ((HOc.out.below (below_only nwd.below owe (by have := He.out; omega) nwd.below.size)).below hN1.below).bytes (by rw [HL1.out]; simp) (by have := hN1.below.size; omega) ?_); intro p2 cap2 wg hO2 hS2)
    | ((with_reducible refine at_slot 88 ?_); (refine arm_buildSlice (o := ⟨some 88, _, _, _, _, _⟩) rfl 1 _ rfl [.int .u8 0] #[(0, .int .u8 0)] (by simp [Act.eval]) (bs1 _) ?_); intro b3 wh hb3 hR3 hN3)
    | ((with_reducible refine at_slot 89 ?_); (refine arm_append2 (o := ⟨some 89, _, _, _, _, _⟩) rfl _ _ rfl we.heap.size p2 (0 + 396) cap2 ([] ++ bs) (by rw [List.nil_append, HL1.out]) rfl (hO2.below hN3.below) (some ⟨b3, 0, none⟩) 1 1 [0] rfl rfl (fun e => by cases e) (own_row (bs := [0]) hR3 (Nat.le_refl b3) (by simp)).bytes (by rw [List.nil_append, HL1.out]; simp) (by have := hN1.below.size; have := hS2.size; have := hN3.below.size; omega) ?_); intro p4 cap4 wi hO4 hS4))
  have eH := He.out; have zd := nwd.size; have ze := swe.out; have zf := hN1.size; have zg := hS2.size; have zh3 := hN3.size; have zc := belc.size
  have bele : Below w.heap.size w we := below_only (below_step belc zc nwd.below) owe (by omega) (by omega)
  have hx : Below we.heap.size we wi := ((hN1.below.trans (hS2.below (fun k e => by cases e) (fun k e => by have := hb1.out; have := Option.some.inj e; simp at this; omega) hN1.below.size)).trans (hN3.below.mono (by omega))).trans (hS4.below (fun k e => by cases e) (own_low hO2) (by omega))
  have beli : Below w.heap.size w wi := below_step bele bele.size hx
  have hO5 : Bt.Own wi we.heap.size p4 cap4 (bs ++ [0]) := by simpa using hO4
  have HO5 := Lib.hid hO5
  clear eH zd ze zf zg zh3 zc bele hx hO5 hO4 hO2 hS2 hS4 hN1 hN3 hR1 hR3 hb1 hb3 belc hwd nwd hwe owe swe He HOc
  refine (CLO.out p4 cap4 wi HO5.out.rd (fun e => by have := own_none HO5.out e; simp at this)).mono ?_
  rintro e wj ⟨rfl, hBj⟩
  have belj : Below w.heap.size w wj := below_step beli beli.size hBj
  clear beli hBj HO5
  go_wp2_with (first
    | ((with_reducible refine at_slot 13 ?_); (refine arm_alloc (o := ⟨some 13, _, _, _, _, _⟩) rfl _ rfl (scs zs) z_sta ?_); intro I wk Ie hwk nwk)
    | ((with_reducible refine arm_store (o := ⟨none, _, _, _, _, _⟩) rfl _ _ _ rfl I 0 rfl (scs zs) rfl _ _ hwk (fitS zs_ok) (scs_one _) (sz_sta zs_ok) ?_); intro wl hwl owl swl))
  have eI := Ie.out; have zk := nwk.size; have zj := belj.size; have zl := swl.out
  have bell : Below w.heap.size w wl := below_only (below_step belj zj nwk.below) owl (by omega) (by omega)
  clear eI zk zj zl belj hwk nwk hwl owl swl Ie
  refine (CRB.out wl (HP.out.below bell)).mono ?_
  rintro e wm ⟨rfl, hBm⟩
  have belm : Below w.heap.size w wm := below_step bell bell.size hBm
  clear bell hBm
  go_wp2_with (first
    | ((with_reducible refine at_slot 15 ?_); (refine arm_alloc (o := ⟨some 15, _, _, _, _, _⟩) rfl _ rfl (scs zs) z_sta ?_); intro U wn Ue hwn nwn)
    | ((with_reducible refine arm_store (o := ⟨none, _, _, _, _, _⟩) rfl _ _ _ rfl U 0 rfl (scs u) rfl _ _ hwn (fitS KU.out) (scs_one _) (sz_sta KU.out) ?_); intro wo hwo owo swo; have hUo := hwo.congr (allS KU.out))    | ((with_reducible refine at_slot 107 ?_); (refine arm_want (.agg (scs u).toArray) 107 rfl (by kernel_rfl) (run_op_load _ _ rfl U 0 rfl (scs u) ((Has.refl _).range hUo) (sz_sta KU.out)) ?_)))
  have eU := Ue.out; have zn := nwn.size; have zm := belm.size; have zo := swo.out
  have belo : Below w.heap.size w wo := below_only (below_step belm zm nwn.below) owo (by omega) (by omega)
  clear eU zn zm zo belm hwn nwn hwo owo swo Ue
  refine (CBU.out wo).mono ?_
  rintro e wp ⟨⟨q6, c6, rfl, hO6⟩, hBp⟩
  have belp : Below w.heap.size w wp := below_step belo belo.size hBp
  have hUp := hUo.old hBp
  have HO6 := Lib.hid hO6
  clear belo hBp hUo hO6
  go_wp2_with fail
  refine (same_at b b q6 p c6 cap 396 b.length HLB.out.symm rfl wp HO6.out.rd (HP.out.below belp) (by rw [HLB.out]; omega) (by rw [HLB.out]; omega)).mono ?_
  rw [decide_eq_true (rfl : b = b)]
  rintro e wq ⟨rfl, hBq⟩
  have belq : Below w.heap.size w wq := below_step belp belp.size hBq
  have hUq := hUp.old hBq
  clear belp hBq hUp HO6
  go_wp2_with (first
    | ((with_reducible refine at_slot 112 ?_); (refine arm_want (.agg (scs u).toArray) 112 rfl (by kernel_rfl) (run_op_load _ _ rfl U 0 rfl (scs u) ((Has.refl _).range hUq) (sz_sta KU.out)) ?_)))
  refine (CU.out wq).mono ?_
  rintro e wr ⟨rfl, hBr⟩
  have belr : Below w.heap.size w wr := below_step belq belq.size hBr
  clear belq hBr hUq
  go_wp2_with fail
  go_ret
  exact ⟨rfl, belr⟩
set_option maxHeartbeats 4000000 in
set_option maxRecDepth 100000 in
theorem back_rb (s t : Sta) (b : List Nat) (p : Option Addr) (cap : Nat) (w : World) (ks1 : s.Ok) (kt : t.Ok) (hp : Rd w p b) (hn : p = none → b.length = 0 ∧ cap = 0) (hlt : AllLt 256 b) (hk : w.rangeAt 0 0 (u32s ks)) (hl : b.length ≤ 1000) (hc : SRt s) (hg : (rdS b).2 ≠ 0) :
    Calls Tryd.prog 5 #[.agg (scs s).toArray, .agg (scs t).toArray, .slice p b.length cap] w fun e w' => e = .returned (.bool true) ∧ Below w.heap.size w w' := by
  have hk1 : 0 < w.heap.size := range_lt hk (by simp [u32s, ks])
  have HKW : Hid (∀ w', Below w.heap.size w w' → w'.rangeAt 0 0 (u32s ks)) := Lib.hid fun w' hb => range_block hk (hb.block _ hk1)
  have KS := Lib.hid ks1; have KT := Lib.hid kt; have HP := Lib.hid hp; have HN := Lib.hid hn; have HLT := Lib.hid hlt
  have hgt : decide ((1000 : Int) < (b.length : Int)) = false := decide_eq_false (by omega)
  have CB1 := Lib.hid (fun w0 => bytes396 s w0 ks1)
  have CB2 := Lib.hid (fun w0 => bytes396 t w0 kt)
  have hl1 := staB_len ks1; have hl2 := staB_len kt
  have hlt1 : AllLt 256 (staB s) := bP_lt ks1 22
  have he := cells_iff ks1 kt
  have hrb := rd_back ks1
  rw [if_pos hc] at hrb
  have CR := Lib.hid (fun w0 => right_any s w0 ks1)
  rw [decide_eq_true hc] at CR
  obtain ⟨bs, hbs⟩ : ∃ bs, bs = staB s := ⟨_, rfl⟩
  obtain ⟨bt, hbt⟩ : ∃ bt, bt = staB t := ⟨_, rfl⟩
  rw [← hbs] at CB1 hl1 hlt1 he hrb
  rw [← hbt] at CB2 hl2 he
  obtain ⟨v, hv⟩ : ∃ v : Bool, v = decide (bs = bt) := ⟨_, rfl⟩
  rw [← hv] at he
  have HV := Lib.hid hv.symm; have HE := Lib.hid he; have HL1 := Lib.hid hl1; have HL2 := Lib.hid hl2
  have CRD := Lib.hid (fun (q : Option Addr) (c : Nat) (w0 : World) (h1 : Rd w0 q bs) (h2 : q = none → bs.length = 0 ∧ c = 0) => by
    have h := read_at bs 396 hl1.symm q c w0 h1 h2 (by rw [hl1]; omega) hlt1
    rw [hrb] at h
    exact h)
  have CSH := Lib.hid (fun (q : Option Addr) (c : Nat) (w0 : World) (h1 : Rd w0 q (bs.take 395)) (h2 : q = none → (bs.take 395).length = 0 ∧ c = 0) => by
    have h := read_at (bs.take 395) 395 (by rw [List.length_take, hl1]; rfl) q c w0 h1 h2 (by rw [List.length_take, hl1]; omega) (fun x hx => hlt1 x (List.mem_of_mem_take hx))
    rw [rd_short (by rw [List.length_take, hl1]; omega)] at h
    exact h)
  have CLO := Lib.hid (fun (q : Option Addr) (c : Nat) (w0 : World) (h1 : Rd w0 q (bs ++ [0])) (h2 : q = none → (bs ++ [0]).length = 0 ∧ c = 0) => by
    have h := read_at (bs ++ [0]) 397 (by rw [List.length_append, hl1]; rfl) q c w0 h1 h2 (by rw [List.length_append, hl1]; simp) (fun x hx => by
      rcases List.mem_append.1 hx with h | h
      · exact hlt1 x h
      · rw [List.mem_singleton.1 h]; decide)
    rw [rd_long (by rw [List.length_append, hl1]; simp)] at h
    exact h)
  have CRB := Lib.hid (fun (w0 : World) (h1 : Rd w0 p b) => read_at b b.length rfl p cap w0 h1 hn (by omega) hlt)
  obtain ⟨u, hu⟩ : ∃ u, u = (rdS b).1 := ⟨_, rfl⟩
  have hku : u.Ok := by rw [hu]; exact rdS_ok hlt
  obtain ⟨f, hf⟩ : ∃ f : Int, f = ((rdS b).2 : Int) := ⟨_, rfl⟩
  rw [← hu, ← hf] at CRB
  have KU := Lib.hid hku
  have hfz : (f != 0) = true := by
    rw [hf]
    simp only [bne_iff_ne, ne_eq]
    omega
  clear hf
  clear ks1 kt hp hn hlt hk hl hl1 hl2 hlt1 he hrb hv hbs hbt hc hg hu hku
  go_enter Tryd.func5, Tryd.ntmps5
  go_wp2_with (first
    | ((with_reducible refine at_slot 3 ?_); (refine arm_box (o := ⟨some 3, _, _, _, _, _⟩) rfl _ _ rfl (scs s) rfl ?_); intro S w1 Se hw1 nw1)
    | ((with_reducible refine at_slot 4 ?_); (refine arm_box (o := ⟨some 4, _, _, _, _, _⟩) rfl _ _ rfl (scs t) rfl ?_); intro T w2 Te hw2 nw2))
  have bel2 : Below w.heap.size w w2 := below_step nw1.below nw1.below.size nw2.below
  refine (awake_any w2 (HKW.out w2 bel2)).mono ?_
  rintro e w3 ⟨rfl, hB3⟩
  have bel3 : Below w.heap.size w w3 := below_step bel2 bel2.size hB3
  have hS3 := (hw1.old nw2.below).old hB3
  have hT3 := hw2.old hB3
  clear hw1 hw2 nw1 nw2 bel2 hB3 Se Te
  go_wp2_with fail
  refine wp_region_held (S := fun w' => Row w' S 35 (scs s) ∧ Row w' T 35 (scs t)) (by kernel_rfl) ?_
  change wpAnyH _ _ _ _ _ _ _ _ w3.drew
  have hS : Row w3.drew S 35 (scs s) ∧ Row w3.drew T 35 (scs t) := ⟨hS3, hT3⟩
  have belz : Below w.heap.size w w3.drew := bel3.trans ((Below.refl _ _).drew)
  generalize w3.drew = wz at hS belz ⊢
  clear hS3 hT3 bel3
  refine h_take 0 (.agg (scs s).toArray) rfl 22 rfl (by kernel_rfl) (by kernel_rfl) (by kernel_rfl) (by kernel_rfl) (fun _ _ _ h => h) (fun w' hw => run_op_load _ _ rfl S 0 rfl (scs s) ((Has.refl _).range hw.1) (sz_sta KS.out)) hS ?_
  simp only [Act.put, List.setIfInBounds_toArray, List.set_cons_zero, List.set_cons_succ]
  refine h_take 2 (.agg (scs t).toArray) rfl 24 rfl (by kernel_rfl) (by kernel_rfl) (by kernel_rfl) (by kernel_rfl) (fun _ _ _ h => h) (fun w' hw => run_op_load _ _ rfl T 0 rfl (scs t) ((Has.refl _).range hw.2) (sz_sta KT.out)) hS ?_
  simp only [Act.put, List.setIfInBounds_toArray, List.set_cons_zero, List.set_cons_succ]
  refine h_one (i := 1) (by kernel_rfl) (o_call rfl 23 rfl (by kernel_rfl) (run_op_call 13 _ _ rfl #[.agg (scs s).toArray] (by simp only [List.map_toArray, List.map_cons, List.map_nil]; rfl) Tryd.func13 (by kernel_rfl) (by kernel_rfl) _) (CB1.out wz) ?_)
  rintro e w4 ⟨⟨q1, c1, rfl, hO1⟩, hB4⟩
  have hS4 : Row w4 S 35 (scs s) ∧ Row w4 T 35 (scs t) := ⟨hS.1.old hB4, hS.2.old hB4⟩
  have bel4 : Below w.heap.size w w4 := below_step belz belz.size hB4
  refine ⟨_, rfl, hS4, ?_⟩
  clear hS belz hB4
  simp only [Act.put, List.setIfInBounds_toArray, List.set_cons_zero, List.set_cons_succ]
  refine h_one (i := 3) (by kernel_rfl) (o_call rfl 25 rfl (by kernel_rfl) (run_op_call 13 _ _ rfl #[.agg (scs t).toArray] (by simp only [List.map_toArray, List.map_cons, List.map_nil]; rfl) Tryd.func13 (by kernel_rfl) (by kernel_rfl) _) (CB2.out w4) ?_)
  rintro e w5 ⟨⟨q2, c2, rfl, hO2⟩, hB5⟩
  have hS5 : Row w5 S 35 (scs s) ∧ Row w5 T 35 (scs t) := ⟨hS4.1.old hB5, hS4.2.old hB5⟩
  have bel5 : Below w.heap.size w w5 := below_step bel4 bel4.size hB5
  refine ⟨_, rfl, hS5, ?_⟩
  have HO1 := Lib.hid (hO1.below hB5); have HO2 := Lib.hid hO2
  clear hS4 bel4 hB5 hO1 hO2
  simp only [Act.put, List.setIfInBounds_toArray, List.set_cons_zero, List.set_cons_succ]
  refine h_take 4 (.slice q1 396 c1) rfl 7 rfl (by kernel_rfl) (by kernel_rfl) (by kernel_rfl) (by kernel_rfl) (fun _ _ _ h => h) (fun w' _ => by kernel_rfl) hS5 ?_
  simp only [Act.put, List.setIfInBounds_toArray, List.set_cons_zero, List.set_cons_succ]
  refine h_take 5 (.slice q2 396 c2) rfl 8 rfl (by kernel_rfl) (by kernel_rfl) (by kernel_rfl) (by kernel_rfl) (fun _ _ _ h => h) (fun w' _ => by kernel_rfl) hS5 ?_
  simp only [Act.put, List.setIfInBounds_toArray, List.set_cons_zero, List.set_cons_succ]
  refine wpAnyH_done (by kernel_rfl) ?_ _
  have HS := Lib.hid hS5.1; have HT := Lib.hid hS5.2
  clear hS5
  go_wp2_with fail
  refine wp_region_quiet (C := fun w' => Below w5.heap.size w5 w') (by kernel_rfl) (by kernel_rfl) ((Below.refl _ _).drew) ?_
  rw [List.toList_toArray]
  refine q_value 26 rfl (.slice q1 396 c1) (by kernel_rfl) (fun w' _ => by kernel_rfl) ?_
  simp only [Act.put, List.setIfInBounds_toArray, List.set_cons_zero, List.set_cons_succ]
  refine q_value 27 rfl (.slice q2 396 c2) (by kernel_rfl) (fun w' _ => by kernel_rfl) ?_
  simp only [Act.put, List.setIfInBounds_toArray, List.set_cons_zero, List.set_cons_succ]
  refine q_call 28 rfl (.bool v) 12 #[.slice q1 396 c1, .slice q2 396 c2] (by kernel_rfl) (fun w' _ => run_op_call _ _ _ rfl _ (by simp only [List.map_toArray, List.map_cons, List.map_nil]; rfl) Tryd.func12 (by kernel_rfl) (by kernel_rfl) w') (fun w' hC => (HV.out ▸ same_at bs bt q1 q2 c1 c2 396 396 HL1.out.symm HL2.out.symm w' (HO1.out.rd.below hC) (HO2.out.rd.below hC) (by rw [HL1.out]; omega) (by rw [HL2.out]; omega)).mono fun e w'' h => ⟨h.1, below_step hC hC.size h.2⟩) ?_
  simp only [Act.put, List.setIfInBounds_toArray, List.set_cons_zero, List.set_cons_succ]
  refine q_value 29 rfl (.agg (scs s).toArray) (by kernel_rfl) (fun w' hC => run_op_load _ _ rfl S 0 rfl (scs s) ((Has.refl _).range (HS.out.old hC)) (sz_sta KS.out)) ?_
  simp only [Act.put, List.setIfInBounds_toArray, List.set_cons_zero, List.set_cons_succ]
  refine q_value 30 rfl (.agg (scs t).toArray) (by kernel_rfl) (fun w' hC => run_op_load _ _ rfl T 0 rfl (scs t) ((Has.refl _).range (HT.out.old hC)) (sz_sta KT.out)) ?_
  simp only [Act.put, List.setIfInBounds_toArray, List.set_cons_zero, List.set_cons_succ]
  refine q_value 31 rfl (.bool v) (by kernel_rfl) (fun w' _ => run_op_eqlS KS.out KT.out _ _ _ rfl rfl rfl v HE.out w') ?_
  simp only [Act.put, List.setIfInBounds_toArray, List.set_cons_zero, List.set_cons_succ]
  refine q_value 32 rfl (.bool false) (by kernel_rfl) (fun w' _ => by cases v <;> kernel_rfl) ?_
  simp only [Act.put, List.setIfInBounds_toArray, List.set_cons_zero, List.set_cons_succ]
  refine q_value 33 rfl (.bool false) (by kernel_rfl) (fun w' _ => by kernel_rfl) ?_
  simp only [Act.put, List.setIfInBounds_toArray, List.set_cons_zero, List.set_cons_succ]
  refine q_value 34 rfl (.slice q1 396 c1) (by kernel_rfl) (fun w' _ => by kernel_rfl) ?_
  simp only [Act.put, List.setIfInBounds_toArray, List.set_cons_zero, List.set_cons_succ]
  refine q_value 35 rfl (.int .i64 396) (by kernel_rfl) (fun w' _ => by kernel_rfl) ?_
  simp only [Act.put, List.setIfInBounds_toArray, List.set_cons_zero, List.set_cons_succ]
  refine q_value 36 rfl (.slice q2 396 c2) (by kernel_rfl) (fun w' _ => by kernel_rfl) ?_
  simp only [Act.put, List.setIfInBounds_toArray, List.set_cons_zero, List.set_cons_succ]
  refine q_value 37 rfl (.int .i64 396) (by kernel_rfl) (fun w' _ => by kernel_rfl) ?_
  simp only [Act.put, List.setIfInBounds_toArray, List.set_cons_zero, List.set_cons_succ]
  refine q_value 38 rfl (.bool false) (by kernel_rfl) (fun w' _ => by kernel_rfl) ?_
  simp only [Act.put, List.setIfInBounds_toArray, List.set_cons_zero, List.set_cons_succ]
  refine q_value 39 rfl (.bool false) (by kernel_rfl) (fun w' _ => by kernel_rfl) ?_
  simp only [Act.put, List.setIfInBounds_toArray, List.set_cons_zero, List.set_cons_succ]
  refine q_value 40 rfl (.bool false) (by kernel_rfl) (fun w' _ => by kernel_rfl) ?_
  simp only [Act.put, List.setIfInBounds_toArray, List.set_cons_zero, List.set_cons_succ]
  refine q_value 41 rfl (.slice q1 396 c1) (by kernel_rfl) (fun w' _ => by kernel_rfl) ?_
  simp only [Act.put, List.setIfInBounds_toArray, List.set_cons_zero, List.set_cons_succ]
  refine q_value 42 rfl (.int .i64 396) (by kernel_rfl) (fun w' _ => by kernel_rfl) ?_
  simp only [Act.put, List.setIfInBounds_toArray, List.set_cons_zero, List.set_cons_succ]
  refine q_value 43 rfl (.bool false) (by kernel_rfl) (fun w' _ => by kernel_rfl) ?_
  simp only [Act.put, List.setIfInBounds_toArray, List.set_cons_zero, List.set_cons_succ]
  refine q_value 44 rfl (.bool false) (by kernel_rfl) (fun w' _ => by kernel_rfl) ?_
  simp only [Act.put, List.setIfInBounds_toArray, List.set_cons_zero, List.set_cons_succ]
  refine wpQuiet_nil ?_
  intro w6 hC
  have hS6 := HS.out.old hC
  have bel6 : Below w.heap.size w w6 := below_step bel5 bel5.size hC
  have HO6 := Lib.hid (HO1.out.below hC)
  clear bel5 hC HS HT HO2 HO1 HV HE
  go_wp2_with fail
  refine (CRD.out q1 c1 w6 HO6.out.rd (own_none HO6.out)).mono ?_
  rintro e w7 ⟨rfl, hB7⟩
  have hS7 := hS6.old hB7
  have bel7 : Below w.heap.size w w7 := below_step bel6 bel6.size hB7
  have HO7 := Lib.hid (HO6.out.below hB7)
  clear hS6 bel6 hB7 HO6
  go_wp2_with (first
    | ((with_reducible refine at_slot 9 ?_); (refine arm_alloc (o := ⟨some 9, _, _, _, _, _⟩) rfl _ rfl (scs zs) z_sta ?_); intro G w8 Ge hw8 nw8)
    | ((with_reducible refine arm_store (o := ⟨none, _, _, _, _, _⟩) rfl _ _ _ rfl G 0 rfl (scs s) rfl _ _ hw8 (fitS KS.out) (scs_one _) (sz_sta KS.out) ?_); intro w9 hw9 ow9 sw9; have hS9 := (hS7.old nw8.below).only ow9 (by have := hS7.lt; have := Ge.out; omega); have hG9 := hw9.congr (allS KS.out))
    | ((with_reducible refine at_slot 50 ?_); (refine arm_load (o := ⟨some 50, _, _, _, _, _⟩) rfl _ _ rfl S 0 rfl (scs s) ((Has.refl _).range hS9) (sz_sta KS.out) ?_)))
  have eG := Ge.out; have zG := nw8.size; have zw := bel7.size
  have bel9 : Below w.heap.size w w9 := below_only (below_step bel7 zw nw8.below) ow9 (by omega) (by omega)
  have hx79 : Below w7.heap.size w7 w9 := below_only nw8.below ow9 (by omega) (by omega)
  have HO9 := Lib.hid (HO7.out.below hx79)
  clear hS7 bel7 eG zG zw hw8 nw8 hw9 ow9 sw9 Ge hx79 HO7
  refine (CR.out w9).mono ?_
  rintro e wa ⟨rfl, hBa⟩
  have hSa := hS9.old hBa; have hGa := hG9.old hBa
  have bela : Below w.heap.size w wa := below_step bel9 bel9.size hBa
  have HOa := Lib.hid (HO9.out.below hBa)
  clear hS9 hG9 bel9 hBa HO9
  go_wp2_with (first
    | ((with_reducible refine at_slot 53 ?_); (refine arm_want (.agg (scs s).toArray) 53 rfl (by kernel_rfl) (run_op_load _ _ rfl G 0 rfl (scs s) ((Has.refl _).range hGa) (sz_sta KS.out)) ?_))
    | ((with_reducible refine at_slot 54 ?_); (refine arm_want (.agg (scs s).toArray) 54 rfl (by kernel_rfl) (run_op_load _ _ rfl S 0 rfl (scs s) ((Has.refl _).range hSa) (sz_sta KS.out)) ?_))
    | ((with_reducible refine at_slot 55 ?_); (refine arm_want (.bool (!true)) 55 rfl (by kernel_rfl) (run_op_neqS KS.out KS.out _ _ _ rfl rfl rfl true (by simp) _) ?_))
    | ((with_reducible refine at_slot 62 ?_); (refine arm_want (.agg (scs s).toArray) 62 rfl (by kernel_rfl) (run_op_load _ _ rfl S 0 rfl (scs s) ((Has.refl _).range hSa) (sz_sta KS.out)) ?_)))
  refine (CR.out wa).mono ?_
  rintro e wb ⟨rfl, hBb⟩
  have hGb := hGa.old hBb
  have belb : Below w.heap.size w wb := below_step bela bela.size hBb
  have HOb := Lib.hid (HOa.out.below hBb)
  have hcap : 395 ≤ c1 := by have := HOb.out.at.1; rw [HL1.out] at this; omega
  clear hSa hGa bela hBb HOa
  go_wp2_with (first
    | ((with_reducible refine at_slot 80 ?_); (refine arm_headS (o := ⟨some 80, _, _, _, _, _⟩) rfl _ _ _ rfl 5 (by kernel_rfl) (by kernel_rfl) q1 396 c1 rfl .i64 395 rfl 395 rfl hcap ?_)))
  refine (CSH.out q1 c1 wb (Rd_take HOb.out.rd 395) (fun e => (own_some HOb.out HL1.out e).elim)).mono ?_
  rintro e wc ⟨rfl, hBc⟩
  have belc : Below w.heap.size w wc := below_step belb belb.size hBc
  have HOc := Lib.hid (HOb.out.below hBc)
  clear belb hBc HOb hGb
  go_wp2_with (first
    | ((with_reducible refine at_slot 11 ?_); (refine arm_alloc (o := ⟨some 11, _, _, _, _, _⟩) rfl _ rfl (scs zs) z_sta ?_); intro H wd He hwd nwd)
    | ((with_reducible refine arm_store (o := ⟨none, _, _, _, _, _⟩) rfl _ _ _ rfl H 0 rfl (scs zs) rfl _ _ hwd (fitS zs_ok) (scs_one _) (sz_sta zs_ok) ?_); intro we hwe owe swe)
    | ((with_reducible refine at_slot 85 ?_); (refine arm_buildSlice (o := ⟨some 85, _, _, _, _, _⟩) rfl 0 _ rfl [] #[] (by simp) bs0 ?_); intro b1 wf hb1 hR1 hN1)
    | ((with_reducible refine at_slot 87 ?_); (refine arm_append2 (o := ⟨some 87, _, _, _, _, _⟩) rfl _ _ rfl we.heap.size (some ⟨b1, 0, none⟩) 0 0 [] rfl rfl (own_new hR1 (by have := hb1.out; omega)) q1 396 c1 bs rfl HL1.out.symm (fun e => (own_some HOc.out HL1.out e).elim) ((HOc.out.below (below_only nwd.below owe (by have := He.out; omega) nwd.below.size)).below hN1.below).bytes (by rw [HL1.out]; simp) (by have := hN1.below.size; omega) ?_); intro p2 cap2 wg hO2 hS2)
    | ((with_reducible refine at_slot 88 ?_); (refine arm_buildSlice (o := ⟨some 88, _, _, _, _, _⟩) rfl 1 _ rfl [.int .u8 0] #[(0, .int .u8 0)] (by simp [Act.eval]) (bs1 _) ?_); intro b3 wh hb3 hR3 hN3)
    | ((with_reducible refine at_slot 89 ?_); (refine arm_append2 (o := ⟨some 89, _, _, _, _, _⟩) rfl _ _ rfl we.heap.size p2 (0 + 396) cap2 ([] ++ bs) (by rw [List.nil_append, HL1.out]) rfl (hO2.below hN3.below) (some ⟨b3, 0, none⟩) 1 1 [0] rfl rfl (fun e => by cases e) (own_row (bs := [0]) hR3 (Nat.le_refl b3) (by simp)).bytes (by rw [List.nil_append, HL1.out]; simp) (by have := hN1.below.size; have := hS2.size; have := hN3.below.size; omega) ?_); intro p4 cap4 wi hO4 hS4))
  have eH := He.out; have zd := nwd.size; have ze := swe.out; have zf := hN1.size; have zg := hS2.size; have zh3 := hN3.size; have zc := belc.size
  have bele : Below w.heap.size w we := below_only (below_step belc zc nwd.below) owe (by omega) (by omega)
  have hx : Below we.heap.size we wi := ((hN1.below.trans (hS2.below (fun k e => by cases e) (fun k e => by have := hb1.out; have := Option.some.inj e; simp at this; omega) hN1.below.size)).trans (hN3.below.mono (by omega))).trans (hS4.below (fun k e => by cases e) (own_low hO2) (by omega))
  have beli : Below w.heap.size w wi := below_step bele bele.size hx
  have hO5 : Bt.Own wi we.heap.size p4 cap4 (bs ++ [0]) := by simpa using hO4
  have HO5 := Lib.hid hO5
  clear eH zd ze zf zg zh3 zc bele hx hO5 hO4 hO2 hS2 hS4 hN1 hN3 hR1 hR3 hb1 hb3 belc hwd nwd hwe owe swe He HOc
  refine (CLO.out p4 cap4 wi HO5.out.rd (fun e => by have := own_none HO5.out e; simp at this)).mono ?_
  rintro e wj ⟨rfl, hBj⟩
  have belj : Below w.heap.size w wj := below_step beli beli.size hBj
  clear beli hBj HO5
  go_wp2_with (first
    | ((with_reducible refine at_slot 13 ?_); (refine arm_alloc (o := ⟨some 13, _, _, _, _, _⟩) rfl _ rfl (scs zs) z_sta ?_); intro I wk Ie hwk nwk)
    | ((with_reducible refine arm_store (o := ⟨none, _, _, _, _, _⟩) rfl _ _ _ rfl I 0 rfl (scs zs) rfl _ _ hwk (fitS zs_ok) (scs_one _) (sz_sta zs_ok) ?_); intro wl hwl owl swl))
  have eI := Ie.out; have zk := nwk.size; have zj := belj.size; have zl := swl.out
  have bell : Below w.heap.size w wl := below_only (below_step belj zj nwk.below) owl (by omega) (by omega)
  clear eI zk zj zl belj hwk nwk hwl owl swl Ie
  refine (CRB.out wl (HP.out.below bell)).mono ?_
  rintro e wm ⟨rfl, hBm⟩
  have belm : Below w.heap.size w wm := below_step bell bell.size hBm
  clear bell hBm
  go_wp2_with (first
    | ((with_reducible refine at_slot 15 ?_); (refine arm_alloc (o := ⟨some 15, _, _, _, _, _⟩) rfl _ rfl (scs zs) z_sta ?_); intro U wn Ue hwn nwn)
    | ((with_reducible refine arm_store (o := ⟨none, _, _, _, _, _⟩) rfl _ _ _ rfl U 0 rfl (scs u) rfl _ _ hwn (fitS KU.out) (scs_one _) (sz_sta KU.out) ?_); intro wo hwo owo swo))
  have eU := Ue.out; have zn := nwn.size; have zm := belm.size; have zo := swo.out
  have belo : Below w.heap.size w wo := below_only (below_step belm zm nwn.below) owo (by omega) (by omega)
  go_ret
  exact ⟨rfl, belo⟩
set_option maxHeartbeats 4000000 in
set_option maxRecDepth 100000 in
theorem back_ng (s t : Sta) (b : List Nat) (p : Option Addr) (cap : Nat) (w : World) (ks1 : s.Ok) (kt : t.Ok) (hp : Rd w p b) (hn : p = none → b.length = 0 ∧ cap = 0) (hlt : AllLt 256 b) (hk : w.rangeAt 0 0 (u32s ks)) (hl : b.length ≤ 1000) (hc : ¬ SRt s) (hg : (rdS b).2 = 0) :
    Calls Tryd.prog 5 #[.agg (scs s).toArray, .agg (scs t).toArray, .slice p b.length cap] w fun e w' => e = .returned (.bool true) ∧ Below w.heap.size w w' := by
  have hk1 : 0 < w.heap.size := range_lt hk (by simp [u32s, ks])
  have HKW : Hid (∀ w', Below w.heap.size w w' → w'.rangeAt 0 0 (u32s ks)) := Lib.hid fun w' hb => range_block hk (hb.block _ hk1)
  have KS := Lib.hid ks1; have KT := Lib.hid kt; have HP := Lib.hid hp; have HN := Lib.hid hn; have HLT := Lib.hid hlt
  have hgt : decide ((1000 : Int) < (b.length : Int)) = false := decide_eq_false (by omega)
  have CB1 := Lib.hid (fun w0 => bytes396 s w0 ks1)
  have CB2 := Lib.hid (fun w0 => bytes396 t w0 kt)
  have hl1 := staB_len ks1; have hl2 := staB_len kt
  have hlt1 : AllLt 256 (staB s) := bP_lt ks1 22
  have he := cells_iff ks1 kt
  have hrb := rd_back ks1
  rw [if_neg hc] at hrb
  have CR := Lib.hid (fun w0 => right_any s w0 ks1)
  rw [decide_eq_false hc] at CR
  obtain ⟨bs, hbs⟩ : ∃ bs, bs = staB s := ⟨_, rfl⟩
  obtain ⟨bt, hbt⟩ : ∃ bt, bt = staB t := ⟨_, rfl⟩
  rw [← hbs] at CB1 hl1 hlt1 he hrb
  rw [← hbt] at CB2 hl2 he
  obtain ⟨v, hv⟩ : ∃ v : Bool, v = decide (bs = bt) := ⟨_, rfl⟩
  rw [← hv] at he
  have HV := Lib.hid hv.symm; have HE := Lib.hid he; have HL1 := Lib.hid hl1; have HL2 := Lib.hid hl2
  have CRD := Lib.hid (fun (q : Option Addr) (c : Nat) (w0 : World) (h1 : Rd w0 q bs) (h2 : q = none → bs.length = 0 ∧ c = 0) => by
    have h := read_at bs 396 hl1.symm q c w0 h1 h2 (by rw [hl1]; omega) hlt1
    rw [hrb] at h
    exact h)
  have CSH := Lib.hid (fun (q : Option Addr) (c : Nat) (w0 : World) (h1 : Rd w0 q (bs.take 395)) (h2 : q = none → (bs.take 395).length = 0 ∧ c = 0) => by
    have h := read_at (bs.take 395) 395 (by rw [List.length_take, hl1]; rfl) q c w0 h1 h2 (by rw [List.length_take, hl1]; omega) (fun x hx => hlt1 x (List.mem_of_mem_take hx))
    rw [rd_short (by rw [List.length_take, hl1]; omega)] at h
    exact h)
  have CLO := Lib.hid (fun (q : Option Addr) (c : Nat) (w0 : World) (h1 : Rd w0 q (bs ++ [0])) (h2 : q = none → (bs ++ [0]).length = 0 ∧ c = 0) => by
    have h := read_at (bs ++ [0]) 397 (by rw [List.length_append, hl1]; rfl) q c w0 h1 h2 (by rw [List.length_append, hl1]; simp) (fun x hx => by
      rcases List.mem_append.1 hx with h | h
      · exact hlt1 x h
      · rw [List.mem_singleton.1 h]; decide)
    rw [rd_long (by rw [List.length_append, hl1]; simp)] at h
    exact h)
  have CRB := Lib.hid (fun (w0 : World) (h1 : Rd w0 p b) => read_at b b.length rfl p cap w0 h1 hn (by omega) hlt)
  obtain ⟨u, hu⟩ : ∃ u, u = (rdS b).1 := ⟨_, rfl⟩
  have hku : u.Ok := by rw [hu]; exact rdS_ok hlt
  obtain ⟨f, hf⟩ : ∃ f : Int, f = ((rdS b).2 : Int) := ⟨_, rfl⟩
  rw [← hu, ← hf] at CRB
  have KU := Lib.hid hku
  have hfz : f = 0 := by rw [hf, hg]; rfl
  have hgd := rd_ok hg hlt
  rw [← hu] at hgd
  have CU := Lib.hid (fun w0 => right_any u w0 hku)
  rw [decide_eq_true hgd.1] at CU
  have CBU := Lib.hid (fun w0 => bytes396 u w0 hku)
  rw [hgd.2] at CBU
  have HLB : Hid (b.length = 396) := Lib.hid (by rw [← hgd.2]; exact staB_len hku)
  subst hfz
  clear hf hgd
  clear ks1 kt hp hn hlt hk hl hl1 hl2 hlt1 he hrb hv hbs hbt hc hg hu hku
  go_enter Tryd.func5, Tryd.ntmps5
  go_wp2_with (first
    | ((with_reducible refine at_slot 3 ?_); (refine arm_box (o := ⟨some 3, _, _, _, _, _⟩) rfl _ _ rfl (scs s) rfl ?_); intro S w1 Se hw1 nw1)
    | ((with_reducible refine at_slot 4 ?_); (refine arm_box (o := ⟨some 4, _, _, _, _, _⟩) rfl _ _ rfl (scs t) rfl ?_); intro T w2 Te hw2 nw2))
  have bel2 : Below w.heap.size w w2 := below_step nw1.below nw1.below.size nw2.below
  refine (awake_any w2 (HKW.out w2 bel2)).mono ?_
  rintro e w3 ⟨rfl, hB3⟩
  have bel3 : Below w.heap.size w w3 := below_step bel2 bel2.size hB3
  have hS3 := (hw1.old nw2.below).old hB3
  have hT3 := hw2.old hB3
  clear hw1 hw2 nw1 nw2 bel2 hB3 Se Te
  go_wp2_with fail
  refine wp_region_held (S := fun w' => Row w' S 35 (scs s) ∧ Row w' T 35 (scs t)) (by kernel_rfl) ?_
  change wpAnyH _ _ _ _ _ _ _ _ w3.drew
  have hS : Row w3.drew S 35 (scs s) ∧ Row w3.drew T 35 (scs t) := ⟨hS3, hT3⟩
  have belz : Below w.heap.size w w3.drew := bel3.trans ((Below.refl _ _).drew)
  generalize w3.drew = wz at hS belz ⊢
  clear hS3 hT3 bel3
  refine h_take 0 (.agg (scs s).toArray) rfl 22 rfl (by kernel_rfl) (by kernel_rfl) (by kernel_rfl) (by kernel_rfl) (fun _ _ _ h => h) (fun w' hw => run_op_load _ _ rfl S 0 rfl (scs s) ((Has.refl _).range hw.1) (sz_sta KS.out)) hS ?_
  simp only [Act.put, List.setIfInBounds_toArray, List.set_cons_zero, List.set_cons_succ]
  refine h_take 2 (.agg (scs t).toArray) rfl 24 rfl (by kernel_rfl) (by kernel_rfl) (by kernel_rfl) (by kernel_rfl) (fun _ _ _ h => h) (fun w' hw => run_op_load _ _ rfl T 0 rfl (scs t) ((Has.refl _).range hw.2) (sz_sta KT.out)) hS ?_
  simp only [Act.put, List.setIfInBounds_toArray, List.set_cons_zero, List.set_cons_succ]
  refine h_one (i := 1) (by kernel_rfl) (o_call rfl 23 rfl (by kernel_rfl) (run_op_call 13 _ _ rfl #[.agg (scs s).toArray] (by simp only [List.map_toArray, List.map_cons, List.map_nil]; rfl) Tryd.func13 (by kernel_rfl) (by kernel_rfl) _) (CB1.out wz) ?_)
  rintro e w4 ⟨⟨q1, c1, rfl, hO1⟩, hB4⟩
  have hS4 : Row w4 S 35 (scs s) ∧ Row w4 T 35 (scs t) := ⟨hS.1.old hB4, hS.2.old hB4⟩
  have bel4 : Below w.heap.size w w4 := below_step belz belz.size hB4
  refine ⟨_, rfl, hS4, ?_⟩
  clear hS belz hB4
  simp only [Act.put, List.setIfInBounds_toArray, List.set_cons_zero, List.set_cons_succ]
  refine h_one (i := 3) (by kernel_rfl) (o_call rfl 25 rfl (by kernel_rfl) (run_op_call 13 _ _ rfl #[.agg (scs t).toArray] (by simp only [List.map_toArray, List.map_cons, List.map_nil]; rfl) Tryd.func13 (by kernel_rfl) (by kernel_rfl) _) (CB2.out w4) ?_)
  rintro e w5 ⟨⟨q2, c2, rfl, hO2⟩, hB5⟩
  have hS5 : Row w5 S 35 (scs s) ∧ Row w5 T 35 (scs t) := ⟨hS4.1.old hB5, hS4.2.old hB5⟩
  have bel5 : Below w.heap.size w w5 := below_step bel4 bel4.size hB5
  refine ⟨_, rfl, hS5, ?_⟩
  have HO1 := Lib.hid (hO1.below hB5); have HO2 := Lib.hid hO2
  clear hS4 bel4 hB5 hO1 hO2
  simp only [Act.put, List.setIfInBounds_toArray, List.set_cons_zero, List.set_cons_succ]
  refine h_take 4 (.slice q1 396 c1) rfl 7 rfl (by kernel_rfl) (by kernel_rfl) (by kernel_rfl) (by kernel_rfl) (fun _ _ _ h => h) (fun w' _ => by kernel_rfl) hS5 ?_
  simp only [Act.put, List.setIfInBounds_toArray, List.set_cons_zero, List.set_cons_succ]
  refine h_take 5 (.slice q2 396 c2) rfl 8 rfl (by kernel_rfl) (by kernel_rfl) (by kernel_rfl) (by kernel_rfl) (fun _ _ _ h => h) (fun w' _ => by kernel_rfl) hS5 ?_
  simp only [Act.put, List.setIfInBounds_toArray, List.set_cons_zero, List.set_cons_succ]
  refine wpAnyH_done (by kernel_rfl) ?_ _
  have HS := Lib.hid hS5.1; have HT := Lib.hid hS5.2
  clear hS5
  go_wp2_with fail
  refine wp_region_quiet (C := fun w' => Below w5.heap.size w5 w') (by kernel_rfl) (by kernel_rfl) ((Below.refl _ _).drew) ?_
  rw [List.toList_toArray]
  refine q_value 26 rfl (.slice q1 396 c1) (by kernel_rfl) (fun w' _ => by kernel_rfl) ?_
  simp only [Act.put, List.setIfInBounds_toArray, List.set_cons_zero, List.set_cons_succ]
  refine q_value 27 rfl (.slice q2 396 c2) (by kernel_rfl) (fun w' _ => by kernel_rfl) ?_
  simp only [Act.put, List.setIfInBounds_toArray, List.set_cons_zero, List.set_cons_succ]
  refine q_call 28 rfl (.bool v) 12 #[.slice q1 396 c1, .slice q2 396 c2] (by kernel_rfl) (fun w' _ => run_op_call _ _ _ rfl _ (by simp only [List.map_toArray, List.map_cons, List.map_nil]; rfl) Tryd.func12 (by kernel_rfl) (by kernel_rfl) w') (fun w' hC => (HV.out ▸ same_at bs bt q1 q2 c1 c2 396 396 HL1.out.symm HL2.out.symm w' (HO1.out.rd.below hC) (HO2.out.rd.below hC) (by rw [HL1.out]; omega) (by rw [HL2.out]; omega)).mono fun e w'' h => ⟨h.1, below_step hC hC.size h.2⟩) ?_
  simp only [Act.put, List.setIfInBounds_toArray, List.set_cons_zero, List.set_cons_succ]
  refine q_value 29 rfl (.agg (scs s).toArray) (by kernel_rfl) (fun w' hC => run_op_load _ _ rfl S 0 rfl (scs s) ((Has.refl _).range (HS.out.old hC)) (sz_sta KS.out)) ?_
  simp only [Act.put, List.setIfInBounds_toArray, List.set_cons_zero, List.set_cons_succ]
  refine q_value 30 rfl (.agg (scs t).toArray) (by kernel_rfl) (fun w' hC => run_op_load _ _ rfl T 0 rfl (scs t) ((Has.refl _).range (HT.out.old hC)) (sz_sta KT.out)) ?_
  simp only [Act.put, List.setIfInBounds_toArray, List.set_cons_zero, List.set_cons_succ]
  refine q_value 31 rfl (.bool v) (by kernel_rfl) (fun w' _ => run_op_eqlS KS.out KT.out _ _ _ rfl rfl rfl v HE.out w') ?_
  simp only [Act.put, List.setIfInBounds_toArray, List.set_cons_zero, List.set_cons_succ]
  refine q_value 32 rfl (.bool false) (by kernel_rfl) (fun w' _ => by cases v <;> kernel_rfl) ?_
  simp only [Act.put, List.setIfInBounds_toArray, List.set_cons_zero, List.set_cons_succ]
  refine q_value 33 rfl (.bool false) (by kernel_rfl) (fun w' _ => by kernel_rfl) ?_
  simp only [Act.put, List.setIfInBounds_toArray, List.set_cons_zero, List.set_cons_succ]
  refine q_value 34 rfl (.slice q1 396 c1) (by kernel_rfl) (fun w' _ => by kernel_rfl) ?_
  simp only [Act.put, List.setIfInBounds_toArray, List.set_cons_zero, List.set_cons_succ]
  refine q_value 35 rfl (.int .i64 396) (by kernel_rfl) (fun w' _ => by kernel_rfl) ?_
  simp only [Act.put, List.setIfInBounds_toArray, List.set_cons_zero, List.set_cons_succ]
  refine q_value 36 rfl (.slice q2 396 c2) (by kernel_rfl) (fun w' _ => by kernel_rfl) ?_
  simp only [Act.put, List.setIfInBounds_toArray, List.set_cons_zero, List.set_cons_succ]
  refine q_value 37 rfl (.int .i64 396) (by kernel_rfl) (fun w' _ => by kernel_rfl) ?_
  simp only [Act.put, List.setIfInBounds_toArray, List.set_cons_zero, List.set_cons_succ]
  refine q_value 38 rfl (.bool false) (by kernel_rfl) (fun w' _ => by kernel_rfl) ?_
  simp only [Act.put, List.setIfInBounds_toArray, List.set_cons_zero, List.set_cons_succ]
  refine q_value 39 rfl (.bool false) (by kernel_rfl) (fun w' _ => by kernel_rfl) ?_
  simp only [Act.put, List.setIfInBounds_toArray, List.set_cons_zero, List.set_cons_succ]
  refine q_value 40 rfl (.bool false) (by kernel_rfl) (fun w' _ => by kernel_rfl) ?_
  simp only [Act.put, List.setIfInBounds_toArray, List.set_cons_zero, List.set_cons_succ]
  refine q_value 41 rfl (.slice q1 396 c1) (by kernel_rfl) (fun w' _ => by kernel_rfl) ?_
  simp only [Act.put, List.setIfInBounds_toArray, List.set_cons_zero, List.set_cons_succ]
  refine q_value 42 rfl (.int .i64 396) (by kernel_rfl) (fun w' _ => by kernel_rfl) ?_
  simp only [Act.put, List.setIfInBounds_toArray, List.set_cons_zero, List.set_cons_succ]
  refine q_value 43 rfl (.bool false) (by kernel_rfl) (fun w' _ => by kernel_rfl) ?_
  simp only [Act.put, List.setIfInBounds_toArray, List.set_cons_zero, List.set_cons_succ]
  refine q_value 44 rfl (.bool false) (by kernel_rfl) (fun w' _ => by kernel_rfl) ?_
  simp only [Act.put, List.setIfInBounds_toArray, List.set_cons_zero, List.set_cons_succ]
  refine wpQuiet_nil ?_
  intro w6 hC
  have hS6 := HS.out.old hC
  have bel6 : Below w.heap.size w w6 := below_step bel5 bel5.size hC
  have HO6 := Lib.hid (HO1.out.below hC)
  clear bel5 hC HS HT HO2 HO1 HV HE
  go_wp2_with fail
  refine (CRD.out q1 c1 w6 HO6.out.rd (own_none HO6.out)).mono ?_
  rintro e w7 ⟨rfl, hB7⟩
  have hS7 := hS6.old hB7
  have bel7 : Below w.heap.size w w7 := below_step bel6 bel6.size hB7
  have HO7 := Lib.hid (HO6.out.below hB7)
  clear hS6 bel6 hB7 HO6
  go_wp2_with (first
    | ((with_reducible refine at_slot 9 ?_); (refine arm_alloc (o := ⟨some 9, _, _, _, _, _⟩) rfl _ rfl (scs zs) z_sta ?_); intro G w8 Ge hw8 nw8)
    | ((with_reducible refine arm_store (o := ⟨none, _, _, _, _, _⟩) rfl _ _ _ rfl G 0 rfl (scs zs) rfl _ _ hw8 (fitS zs_ok) (scs_one _) (sz_sta zs_ok) ?_); intro w9 hw9 ow9 sw9; have hS9 := (hS7.old nw8.below).only ow9 (by have := hS7.lt; have := Ge.out; omega); have hG9 := hw9.congr (allS zs_ok))
    | ((with_reducible refine at_slot 50 ?_); (refine arm_load (o := ⟨some 50, _, _, _, _, _⟩) rfl _ _ rfl S 0 rfl (scs s) ((Has.refl _).range hS9) (sz_sta KS.out) ?_)))
  have eG := Ge.out; have zG := nw8.size; have zw := bel7.size
  have bel9 : Below w.heap.size w w9 := below_only (below_step bel7 zw nw8.below) ow9 (by omega) (by omega)
  have hx79 : Below w7.heap.size w7 w9 := below_only nw8.below ow9 (by omega) (by omega)
  have HO9 := Lib.hid (HO7.out.below hx79)
  clear hS7 bel7 eG zG zw hw8 nw8 hw9 ow9 sw9 Ge hx79 HO7
  refine (CR.out w9).mono ?_
  rintro e wa ⟨rfl, hBa⟩
  have hSa := hS9.old hBa; have hGa := hG9.old hBa
  have bela : Below w.heap.size w wa := below_step bel9 bel9.size hBa
  have HOa := Lib.hid (HO9.out.below hBa)
  clear hS9 hG9 bel9 hBa HO9
  go_wp2_with (first
    | ((with_reducible refine at_slot 62 ?_); (refine arm_want (.agg (scs s).toArray) 62 rfl (by kernel_rfl) (run_op_load _ _ rfl S 0 rfl (scs s) ((Has.refl _).range hSa) (sz_sta KS.out)) ?_)))
  refine (CR.out wa).mono ?_
  rintro e wb ⟨rfl, hBb⟩
  have hGb := hGa.old hBb
  have belb : Below w.heap.size w wb := below_step bela bela.size hBb
  have HOb := Lib.hid (HOa.out.below hBb)
  have hcap : 395 ≤ c1 := by have := HOb.out.at.1; rw [HL1.out] at this; omega
  clear hSa hGa bela hBb HOa
  go_wp2_with (first
    | ((with_reducible refine at_slot 69 ?_); (refine arm_want (.agg (scs zs).toArray) 69 rfl (by kernel_rfl) (run_op_load _ _ rfl G 0 rfl (scs zs) ((Has.refl _).range hGb) (sz_sta zs_ok)) ?_))
    | ((with_reducible refine at_slot 70 ?_); (refine arm_want (.agg (scs zs).toArray) 70 rfl (by kernel_rfl) (run_op_build _ _ rfl (scs zs) (by simp only [List.map_toArray, List.map_nil]; exact built_sta0) _) ?_))
    | ((with_reducible refine at_slot 71 ?_); (refine arm_want (.bool (!true)) 71 rfl (by kernel_rfl) (run_op_neqS zs_ok zs_ok _ _ _ rfl rfl rfl true (by simp) _) ?_))
    | ((with_reducible refine at_slot 80 ?_); (refine arm_headS (o := ⟨some 80, _, _, _, _, _⟩) rfl _ _ _ rfl 5 (by kernel_rfl) (by kernel_rfl) q1 396 c1 rfl .i64 395 rfl 395 rfl hcap ?_)))
  refine (CSH.out q1 c1 wb (Rd_take HOb.out.rd 395) (fun e => (own_some HOb.out HL1.out e).elim)).mono ?_
  rintro e wc ⟨rfl, hBc⟩
  have belc : Below w.heap.size w wc := below_step belb belb.size hBc
  have HOc := Lib.hid (HOb.out.below hBc)
  clear belb hBc HOb hGb
  go_wp2_with (first
    | ((with_reducible refine at_slot 11 ?_); (refine arm_alloc (o := ⟨some 11, _, _, _, _, _⟩) rfl _ rfl (scs zs) z_sta ?_); intro H wd He hwd nwd)
    | ((with_reducible refine arm_store (o := ⟨none, _, _, _, _, _⟩) rfl _ _ _ rfl H 0 rfl (scs zs) rfl _ _ hwd (fitS zs_ok) (scs_one _) (sz_sta zs_ok) ?_); intro we hwe owe swe)
    | ((with_reducible refine at_slot 85 ?_); (refine arm_buildSlice (o := ⟨some 85, _, _, _, _, _⟩) rfl 0 _ rfl [] #[] (by simp) bs0 ?_); intro b1 wf hb1 hR1 hN1)
    | ((with_reducible refine at_slot 87 ?_); (refine arm_append2 (o := ⟨some 87, _, _, _, _, _⟩) rfl _ _ rfl we.heap.size (some ⟨b1, 0, none⟩) 0 0 [] rfl rfl (own_new hR1 (by have := hb1.out; omega)) q1 396 c1 bs rfl HL1.out.symm (fun e => (own_some HOc.out HL1.out e).elim) ((HOc.out.below (below_only nwd.below owe (by have := He.out; omega) nwd.below.size)).below hN1.below).bytes (by rw [HL1.out]; simp) (by have := hN1.below.size; omega) ?_); intro p2 cap2 wg hO2 hS2)
    | ((with_reducible refine at_slot 88 ?_); (refine arm_buildSlice (o := ⟨some 88, _, _, _, _, _⟩) rfl 1 _ rfl [.int .u8 0] #[(0, .int .u8 0)] (by simp [Act.eval]) (bs1 _) ?_); intro b3 wh hb3 hR3 hN3)
    | ((with_reducible refine at_slot 89 ?_); (refine arm_append2 (o := ⟨some 89, _, _, _, _, _⟩) rfl _ _ rfl we.heap.size p2 (0 + 396) cap2 ([] ++ bs) (by rw [List.nil_append, HL1.out]) rfl (hO2.below hN3.below) (some ⟨b3, 0, none⟩) 1 1 [0] rfl rfl (fun e => by cases e) (own_row (bs := [0]) hR3 (Nat.le_refl b3) (by simp)).bytes (by rw [List.nil_append, HL1.out]; simp) (by have := hN1.below.size; have := hS2.size; have := hN3.below.size; omega) ?_); intro p4 cap4 wi hO4 hS4))
  have eH := He.out; have zd := nwd.size; have ze := swe.out; have zf := hN1.size; have zg := hS2.size; have zh3 := hN3.size; have zc := belc.size
  have bele : Below w.heap.size w we := below_only (below_step belc zc nwd.below) owe (by omega) (by omega)
  have hx : Below we.heap.size we wi := ((hN1.below.trans (hS2.below (fun k e => by cases e) (fun k e => by have := hb1.out; have := Option.some.inj e; simp at this; omega) hN1.below.size)).trans (hN3.below.mono (by omega))).trans (hS4.below (fun k e => by cases e) (own_low hO2) (by omega))
  have beli : Below w.heap.size w wi := below_step bele bele.size hx
  have hO5 : Bt.Own wi we.heap.size p4 cap4 (bs ++ [0]) := by simpa using hO4
  have HO5 := Lib.hid hO5
  clear eH zd ze zf zg zh3 zc bele hx hO5 hO4 hO2 hS2 hS4 hN1 hN3 hR1 hR3 hb1 hb3 belc hwd nwd hwe owe swe He HOc
  refine (CLO.out p4 cap4 wi HO5.out.rd (fun e => by have := own_none HO5.out e; simp at this)).mono ?_
  rintro e wj ⟨rfl, hBj⟩
  have belj : Below w.heap.size w wj := below_step beli beli.size hBj
  clear beli hBj HO5
  go_wp2_with (first
    | ((with_reducible refine at_slot 13 ?_); (refine arm_alloc (o := ⟨some 13, _, _, _, _, _⟩) rfl _ rfl (scs zs) z_sta ?_); intro I wk Ie hwk nwk)
    | ((with_reducible refine arm_store (o := ⟨none, _, _, _, _, _⟩) rfl _ _ _ rfl I 0 rfl (scs zs) rfl _ _ hwk (fitS zs_ok) (scs_one _) (sz_sta zs_ok) ?_); intro wl hwl owl swl))
  have eI := Ie.out; have zk := nwk.size; have zj := belj.size; have zl := swl.out
  have bell : Below w.heap.size w wl := below_only (below_step belj zj nwk.below) owl (by omega) (by omega)
  clear eI zk zj zl belj hwk nwk hwl owl swl Ie
  refine (CRB.out wl (HP.out.below bell)).mono ?_
  rintro e wm ⟨rfl, hBm⟩
  have belm : Below w.heap.size w wm := below_step bell bell.size hBm
  clear bell hBm
  go_wp2_with (first
    | ((with_reducible refine at_slot 15 ?_); (refine arm_alloc (o := ⟨some 15, _, _, _, _, _⟩) rfl _ rfl (scs zs) z_sta ?_); intro U wn Ue hwn nwn)
    | ((with_reducible refine arm_store (o := ⟨none, _, _, _, _, _⟩) rfl _ _ _ rfl U 0 rfl (scs u) rfl _ _ hwn (fitS KU.out) (scs_one _) (sz_sta KU.out) ?_); intro wo hwo owo swo; have hUo := hwo.congr (allS KU.out))    | ((with_reducible refine at_slot 107 ?_); (refine arm_want (.agg (scs u).toArray) 107 rfl (by kernel_rfl) (run_op_load _ _ rfl U 0 rfl (scs u) ((Has.refl _).range hUo) (sz_sta KU.out)) ?_)))
  have eU := Ue.out; have zn := nwn.size; have zm := belm.size; have zo := swo.out
  have belo : Below w.heap.size w wo := below_only (below_step belm zm nwn.below) owo (by omega) (by omega)
  clear eU zn zm zo belm hwn nwn hwo owo swo Ue
  refine (CBU.out wo).mono ?_
  rintro e wp ⟨⟨q6, c6, rfl, hO6⟩, hBp⟩
  have belp : Below w.heap.size w wp := below_step belo belo.size hBp
  have hUp := hUo.old hBp
  have HO6 := Lib.hid hO6
  clear belo hBp hUo hO6
  go_wp2_with fail
  refine (same_at b b q6 p c6 cap 396 b.length HLB.out.symm rfl wp HO6.out.rd (HP.out.below belp) (by rw [HLB.out]; omega) (by rw [HLB.out]; omega)).mono ?_
  rw [decide_eq_true (rfl : b = b)]
  rintro e wq ⟨rfl, hBq⟩
  have belq : Below w.heap.size w wq := below_step belp belp.size hBq
  have hUq := hUp.old hBq
  clear belp hBq hUp HO6
  go_wp2_with (first
    | ((with_reducible refine at_slot 112 ?_); (refine arm_want (.agg (scs u).toArray) 112 rfl (by kernel_rfl) (run_op_load _ _ rfl U 0 rfl (scs u) ((Has.refl _).range hUq) (sz_sta KU.out)) ?_)))
  refine (CU.out wq).mono ?_
  rintro e wr ⟨rfl, hBr⟩
  have belr : Below w.heap.size w wr := below_step belq belq.size hBr
  clear belq hBr hUq
  go_wp2_with fail
  go_ret
  exact ⟨rfl, belr⟩
set_option maxHeartbeats 4000000 in
set_option maxRecDepth 100000 in
theorem back_nb (s t : Sta) (b : List Nat) (p : Option Addr) (cap : Nat) (w : World) (ks1 : s.Ok) (kt : t.Ok) (hp : Rd w p b) (hn : p = none → b.length = 0 ∧ cap = 0) (hlt : AllLt 256 b) (hk : w.rangeAt 0 0 (u32s ks)) (hl : b.length ≤ 1000) (hc : ¬ SRt s) (hg : (rdS b).2 ≠ 0) :
    Calls Tryd.prog 5 #[.agg (scs s).toArray, .agg (scs t).toArray, .slice p b.length cap] w fun e w' => e = .returned (.bool true) ∧ Below w.heap.size w w' := by
  have hk1 : 0 < w.heap.size := range_lt hk (by simp [u32s, ks])
  have HKW : Hid (∀ w', Below w.heap.size w w' → w'.rangeAt 0 0 (u32s ks)) := Lib.hid fun w' hb => range_block hk (hb.block _ hk1)
  have KS := Lib.hid ks1; have KT := Lib.hid kt; have HP := Lib.hid hp; have HN := Lib.hid hn; have HLT := Lib.hid hlt
  have hgt : decide ((1000 : Int) < (b.length : Int)) = false := decide_eq_false (by omega)
  have CB1 := Lib.hid (fun w0 => bytes396 s w0 ks1)
  have CB2 := Lib.hid (fun w0 => bytes396 t w0 kt)
  have hl1 := staB_len ks1; have hl2 := staB_len kt
  have hlt1 : AllLt 256 (staB s) := bP_lt ks1 22
  have he := cells_iff ks1 kt
  have hrb := rd_back ks1
  rw [if_neg hc] at hrb
  have CR := Lib.hid (fun w0 => right_any s w0 ks1)
  rw [decide_eq_false hc] at CR
  obtain ⟨bs, hbs⟩ : ∃ bs, bs = staB s := ⟨_, rfl⟩
  obtain ⟨bt, hbt⟩ : ∃ bt, bt = staB t := ⟨_, rfl⟩
  rw [← hbs] at CB1 hl1 hlt1 he hrb
  rw [← hbt] at CB2 hl2 he
  obtain ⟨v, hv⟩ : ∃ v : Bool, v = decide (bs = bt) := ⟨_, rfl⟩
  rw [← hv] at he
  have HV := Lib.hid hv.symm; have HE := Lib.hid he; have HL1 := Lib.hid hl1; have HL2 := Lib.hid hl2
  have CRD := Lib.hid (fun (q : Option Addr) (c : Nat) (w0 : World) (h1 : Rd w0 q bs) (h2 : q = none → bs.length = 0 ∧ c = 0) => by
    have h := read_at bs 396 hl1.symm q c w0 h1 h2 (by rw [hl1]; omega) hlt1
    rw [hrb] at h
    exact h)
  have CSH := Lib.hid (fun (q : Option Addr) (c : Nat) (w0 : World) (h1 : Rd w0 q (bs.take 395)) (h2 : q = none → (bs.take 395).length = 0 ∧ c = 0) => by
    have h := read_at (bs.take 395) 395 (by rw [List.length_take, hl1]; rfl) q c w0 h1 h2 (by rw [List.length_take, hl1]; omega) (fun x hx => hlt1 x (List.mem_of_mem_take hx))
    rw [rd_short (by rw [List.length_take, hl1]; omega)] at h
    exact h)
  have CLO := Lib.hid (fun (q : Option Addr) (c : Nat) (w0 : World) (h1 : Rd w0 q (bs ++ [0])) (h2 : q = none → (bs ++ [0]).length = 0 ∧ c = 0) => by
    have h := read_at (bs ++ [0]) 397 (by rw [List.length_append, hl1]; rfl) q c w0 h1 h2 (by rw [List.length_append, hl1]; simp) (fun x hx => by
      rcases List.mem_append.1 hx with h | h
      · exact hlt1 x h
      · rw [List.mem_singleton.1 h]; decide)
    rw [rd_long (by rw [List.length_append, hl1]; simp)] at h
    exact h)
  have CRB := Lib.hid (fun (w0 : World) (h1 : Rd w0 p b) => read_at b b.length rfl p cap w0 h1 hn (by omega) hlt)
  obtain ⟨u, hu⟩ : ∃ u, u = (rdS b).1 := ⟨_, rfl⟩
  have hku : u.Ok := by rw [hu]; exact rdS_ok hlt
  obtain ⟨f, hf⟩ : ∃ f : Int, f = ((rdS b).2 : Int) := ⟨_, rfl⟩
  rw [← hu, ← hf] at CRB
  have KU := Lib.hid hku
  have hfz : (f != 0) = true := by
    rw [hf]
    simp only [bne_iff_ne, ne_eq]
    omega
  clear hf
  clear ks1 kt hp hn hlt hk hl hl1 hl2 hlt1 he hrb hv hbs hbt hc hg hu hku
  go_enter Tryd.func5, Tryd.ntmps5
  go_wp2_with (first
    | ((with_reducible refine at_slot 3 ?_); (refine arm_box (o := ⟨some 3, _, _, _, _, _⟩) rfl _ _ rfl (scs s) rfl ?_); intro S w1 Se hw1 nw1)
    | ((with_reducible refine at_slot 4 ?_); (refine arm_box (o := ⟨some 4, _, _, _, _, _⟩) rfl _ _ rfl (scs t) rfl ?_); intro T w2 Te hw2 nw2))
  have bel2 : Below w.heap.size w w2 := below_step nw1.below nw1.below.size nw2.below
  refine (awake_any w2 (HKW.out w2 bel2)).mono ?_
  rintro e w3 ⟨rfl, hB3⟩
  have bel3 : Below w.heap.size w w3 := below_step bel2 bel2.size hB3
  have hS3 := (hw1.old nw2.below).old hB3
  have hT3 := hw2.old hB3
  clear hw1 hw2 nw1 nw2 bel2 hB3 Se Te
  go_wp2_with fail
  refine wp_region_held (S := fun w' => Row w' S 35 (scs s) ∧ Row w' T 35 (scs t)) (by kernel_rfl) ?_
  change wpAnyH _ _ _ _ _ _ _ _ w3.drew
  have hS : Row w3.drew S 35 (scs s) ∧ Row w3.drew T 35 (scs t) := ⟨hS3, hT3⟩
  have belz : Below w.heap.size w w3.drew := bel3.trans ((Below.refl _ _).drew)
  generalize w3.drew = wz at hS belz ⊢
  clear hS3 hT3 bel3
  refine h_take 0 (.agg (scs s).toArray) rfl 22 rfl (by kernel_rfl) (by kernel_rfl) (by kernel_rfl) (by kernel_rfl) (fun _ _ _ h => h) (fun w' hw => run_op_load _ _ rfl S 0 rfl (scs s) ((Has.refl _).range hw.1) (sz_sta KS.out)) hS ?_
  simp only [Act.put, List.setIfInBounds_toArray, List.set_cons_zero, List.set_cons_succ]
  refine h_take 2 (.agg (scs t).toArray) rfl 24 rfl (by kernel_rfl) (by kernel_rfl) (by kernel_rfl) (by kernel_rfl) (fun _ _ _ h => h) (fun w' hw => run_op_load _ _ rfl T 0 rfl (scs t) ((Has.refl _).range hw.2) (sz_sta KT.out)) hS ?_
  simp only [Act.put, List.setIfInBounds_toArray, List.set_cons_zero, List.set_cons_succ]
  refine h_one (i := 1) (by kernel_rfl) (o_call rfl 23 rfl (by kernel_rfl) (run_op_call 13 _ _ rfl #[.agg (scs s).toArray] (by simp only [List.map_toArray, List.map_cons, List.map_nil]; rfl) Tryd.func13 (by kernel_rfl) (by kernel_rfl) _) (CB1.out wz) ?_)
  rintro e w4 ⟨⟨q1, c1, rfl, hO1⟩, hB4⟩
  have hS4 : Row w4 S 35 (scs s) ∧ Row w4 T 35 (scs t) := ⟨hS.1.old hB4, hS.2.old hB4⟩
  have bel4 : Below w.heap.size w w4 := below_step belz belz.size hB4
  refine ⟨_, rfl, hS4, ?_⟩
  clear hS belz hB4
  simp only [Act.put, List.setIfInBounds_toArray, List.set_cons_zero, List.set_cons_succ]
  refine h_one (i := 3) (by kernel_rfl) (o_call rfl 25 rfl (by kernel_rfl) (run_op_call 13 _ _ rfl #[.agg (scs t).toArray] (by simp only [List.map_toArray, List.map_cons, List.map_nil]; rfl) Tryd.func13 (by kernel_rfl) (by kernel_rfl) _) (CB2.out w4) ?_)
  rintro e w5 ⟨⟨q2, c2, rfl, hO2⟩, hB5⟩
  have hS5 : Row w5 S 35 (scs s) ∧ Row w5 T 35 (scs t) := ⟨hS4.1.old hB5, hS4.2.old hB5⟩
  have bel5 : Below w.heap.size w w5 := below_step bel4 bel4.size hB5
  refine ⟨_, rfl, hS5, ?_⟩
  have HO1 := Lib.hid (hO1.below hB5); have HO2 := Lib.hid hO2
  clear hS4 bel4 hB5 hO1 hO2
  simp only [Act.put, List.setIfInBounds_toArray, List.set_cons_zero, List.set_cons_succ]
  refine h_take 4 (.slice q1 396 c1) rfl 7 rfl (by kernel_rfl) (by kernel_rfl) (by kernel_rfl) (by kernel_rfl) (fun _ _ _ h => h) (fun w' _ => by kernel_rfl) hS5 ?_
  simp only [Act.put, List.setIfInBounds_toArray, List.set_cons_zero, List.set_cons_succ]
  refine h_take 5 (.slice q2 396 c2) rfl 8 rfl (by kernel_rfl) (by kernel_rfl) (by kernel_rfl) (by kernel_rfl) (fun _ _ _ h => h) (fun w' _ => by kernel_rfl) hS5 ?_
  simp only [Act.put, List.setIfInBounds_toArray, List.set_cons_zero, List.set_cons_succ]
  refine wpAnyH_done (by kernel_rfl) ?_ _
  have HS := Lib.hid hS5.1; have HT := Lib.hid hS5.2
  clear hS5
  go_wp2_with fail
  refine wp_region_quiet (C := fun w' => Below w5.heap.size w5 w') (by kernel_rfl) (by kernel_rfl) ((Below.refl _ _).drew) ?_
  rw [List.toList_toArray]
  refine q_value 26 rfl (.slice q1 396 c1) (by kernel_rfl) (fun w' _ => by kernel_rfl) ?_
  simp only [Act.put, List.setIfInBounds_toArray, List.set_cons_zero, List.set_cons_succ]
  refine q_value 27 rfl (.slice q2 396 c2) (by kernel_rfl) (fun w' _ => by kernel_rfl) ?_
  simp only [Act.put, List.setIfInBounds_toArray, List.set_cons_zero, List.set_cons_succ]
  refine q_call 28 rfl (.bool v) 12 #[.slice q1 396 c1, .slice q2 396 c2] (by kernel_rfl) (fun w' _ => run_op_call _ _ _ rfl _ (by simp only [List.map_toArray, List.map_cons, List.map_nil]; rfl) Tryd.func12 (by kernel_rfl) (by kernel_rfl) w') (fun w' hC => (HV.out ▸ same_at bs bt q1 q2 c1 c2 396 396 HL1.out.symm HL2.out.symm w' (HO1.out.rd.below hC) (HO2.out.rd.below hC) (by rw [HL1.out]; omega) (by rw [HL2.out]; omega)).mono fun e w'' h => ⟨h.1, below_step hC hC.size h.2⟩) ?_
  simp only [Act.put, List.setIfInBounds_toArray, List.set_cons_zero, List.set_cons_succ]
  refine q_value 29 rfl (.agg (scs s).toArray) (by kernel_rfl) (fun w' hC => run_op_load _ _ rfl S 0 rfl (scs s) ((Has.refl _).range (HS.out.old hC)) (sz_sta KS.out)) ?_
  simp only [Act.put, List.setIfInBounds_toArray, List.set_cons_zero, List.set_cons_succ]
  refine q_value 30 rfl (.agg (scs t).toArray) (by kernel_rfl) (fun w' hC => run_op_load _ _ rfl T 0 rfl (scs t) ((Has.refl _).range (HT.out.old hC)) (sz_sta KT.out)) ?_
  simp only [Act.put, List.setIfInBounds_toArray, List.set_cons_zero, List.set_cons_succ]
  refine q_value 31 rfl (.bool v) (by kernel_rfl) (fun w' _ => run_op_eqlS KS.out KT.out _ _ _ rfl rfl rfl v HE.out w') ?_
  simp only [Act.put, List.setIfInBounds_toArray, List.set_cons_zero, List.set_cons_succ]
  refine q_value 32 rfl (.bool false) (by kernel_rfl) (fun w' _ => by cases v <;> kernel_rfl) ?_
  simp only [Act.put, List.setIfInBounds_toArray, List.set_cons_zero, List.set_cons_succ]
  refine q_value 33 rfl (.bool false) (by kernel_rfl) (fun w' _ => by kernel_rfl) ?_
  simp only [Act.put, List.setIfInBounds_toArray, List.set_cons_zero, List.set_cons_succ]
  refine q_value 34 rfl (.slice q1 396 c1) (by kernel_rfl) (fun w' _ => by kernel_rfl) ?_
  simp only [Act.put, List.setIfInBounds_toArray, List.set_cons_zero, List.set_cons_succ]
  refine q_value 35 rfl (.int .i64 396) (by kernel_rfl) (fun w' _ => by kernel_rfl) ?_
  simp only [Act.put, List.setIfInBounds_toArray, List.set_cons_zero, List.set_cons_succ]
  refine q_value 36 rfl (.slice q2 396 c2) (by kernel_rfl) (fun w' _ => by kernel_rfl) ?_
  simp only [Act.put, List.setIfInBounds_toArray, List.set_cons_zero, List.set_cons_succ]
  refine q_value 37 rfl (.int .i64 396) (by kernel_rfl) (fun w' _ => by kernel_rfl) ?_
  simp only [Act.put, List.setIfInBounds_toArray, List.set_cons_zero, List.set_cons_succ]
  refine q_value 38 rfl (.bool false) (by kernel_rfl) (fun w' _ => by kernel_rfl) ?_
  simp only [Act.put, List.setIfInBounds_toArray, List.set_cons_zero, List.set_cons_succ]
  refine q_value 39 rfl (.bool false) (by kernel_rfl) (fun w' _ => by kernel_rfl) ?_
  simp only [Act.put, List.setIfInBounds_toArray, List.set_cons_zero, List.set_cons_succ]
  refine q_value 40 rfl (.bool false) (by kernel_rfl) (fun w' _ => by kernel_rfl) ?_
  simp only [Act.put, List.setIfInBounds_toArray, List.set_cons_zero, List.set_cons_succ]
  refine q_value 41 rfl (.slice q1 396 c1) (by kernel_rfl) (fun w' _ => by kernel_rfl) ?_
  simp only [Act.put, List.setIfInBounds_toArray, List.set_cons_zero, List.set_cons_succ]
  refine q_value 42 rfl (.int .i64 396) (by kernel_rfl) (fun w' _ => by kernel_rfl) ?_
  simp only [Act.put, List.setIfInBounds_toArray, List.set_cons_zero, List.set_cons_succ]
  refine q_value 43 rfl (.bool false) (by kernel_rfl) (fun w' _ => by kernel_rfl) ?_
  simp only [Act.put, List.setIfInBounds_toArray, List.set_cons_zero, List.set_cons_succ]
  refine q_value 44 rfl (.bool false) (by kernel_rfl) (fun w' _ => by kernel_rfl) ?_
  simp only [Act.put, List.setIfInBounds_toArray, List.set_cons_zero, List.set_cons_succ]
  refine wpQuiet_nil ?_
  intro w6 hC
  have hS6 := HS.out.old hC
  have bel6 : Below w.heap.size w w6 := below_step bel5 bel5.size hC
  have HO6 := Lib.hid (HO1.out.below hC)
  clear bel5 hC HS HT HO2 HO1 HV HE
  go_wp2_with fail
  refine (CRD.out q1 c1 w6 HO6.out.rd (own_none HO6.out)).mono ?_
  rintro e w7 ⟨rfl, hB7⟩
  have hS7 := hS6.old hB7
  have bel7 : Below w.heap.size w w7 := below_step bel6 bel6.size hB7
  have HO7 := Lib.hid (HO6.out.below hB7)
  clear hS6 bel6 hB7 HO6
  go_wp2_with (first
    | ((with_reducible refine at_slot 9 ?_); (refine arm_alloc (o := ⟨some 9, _, _, _, _, _⟩) rfl _ rfl (scs zs) z_sta ?_); intro G w8 Ge hw8 nw8)
    | ((with_reducible refine arm_store (o := ⟨none, _, _, _, _, _⟩) rfl _ _ _ rfl G 0 rfl (scs zs) rfl _ _ hw8 (fitS zs_ok) (scs_one _) (sz_sta zs_ok) ?_); intro w9 hw9 ow9 sw9; have hS9 := (hS7.old nw8.below).only ow9 (by have := hS7.lt; have := Ge.out; omega); have hG9 := hw9.congr (allS zs_ok))
    | ((with_reducible refine at_slot 50 ?_); (refine arm_load (o := ⟨some 50, _, _, _, _, _⟩) rfl _ _ rfl S 0 rfl (scs s) ((Has.refl _).range hS9) (sz_sta KS.out) ?_)))
  have eG := Ge.out; have zG := nw8.size; have zw := bel7.size
  have bel9 : Below w.heap.size w w9 := below_only (below_step bel7 zw nw8.below) ow9 (by omega) (by omega)
  have hx79 : Below w7.heap.size w7 w9 := below_only nw8.below ow9 (by omega) (by omega)
  have HO9 := Lib.hid (HO7.out.below hx79)
  clear hS7 bel7 eG zG zw hw8 nw8 hw9 ow9 sw9 Ge hx79 HO7
  refine (CR.out w9).mono ?_
  rintro e wa ⟨rfl, hBa⟩
  have hSa := hS9.old hBa; have hGa := hG9.old hBa
  have bela : Below w.heap.size w wa := below_step bel9 bel9.size hBa
  have HOa := Lib.hid (HO9.out.below hBa)
  clear hS9 hG9 bel9 hBa HO9
  go_wp2_with (first
    | ((with_reducible refine at_slot 62 ?_); (refine arm_want (.agg (scs s).toArray) 62 rfl (by kernel_rfl) (run_op_load _ _ rfl S 0 rfl (scs s) ((Has.refl _).range hSa) (sz_sta KS.out)) ?_)))
  refine (CR.out wa).mono ?_
  rintro e wb ⟨rfl, hBb⟩
  have hGb := hGa.old hBb
  have belb : Below w.heap.size w wb := below_step bela bela.size hBb
  have HOb := Lib.hid (HOa.out.below hBb)
  have hcap : 395 ≤ c1 := by have := HOb.out.at.1; rw [HL1.out] at this; omega
  clear hSa hGa bela hBb HOa
  go_wp2_with (first
    | ((with_reducible refine at_slot 69 ?_); (refine arm_want (.agg (scs zs).toArray) 69 rfl (by kernel_rfl) (run_op_load _ _ rfl G 0 rfl (scs zs) ((Has.refl _).range hGb) (sz_sta zs_ok)) ?_))
    | ((with_reducible refine at_slot 70 ?_); (refine arm_want (.agg (scs zs).toArray) 70 rfl (by kernel_rfl) (run_op_build _ _ rfl (scs zs) (by simp only [List.map_toArray, List.map_nil]; exact built_sta0) _) ?_))
    | ((with_reducible refine at_slot 71 ?_); (refine arm_want (.bool (!true)) 71 rfl (by kernel_rfl) (run_op_neqS zs_ok zs_ok _ _ _ rfl rfl rfl true (by simp) _) ?_))
    | ((with_reducible refine at_slot 80 ?_); (refine arm_headS (o := ⟨some 80, _, _, _, _, _⟩) rfl _ _ _ rfl 5 (by kernel_rfl) (by kernel_rfl) q1 396 c1 rfl .i64 395 rfl 395 rfl hcap ?_)))
  refine (CSH.out q1 c1 wb (Rd_take HOb.out.rd 395) (fun e => (own_some HOb.out HL1.out e).elim)).mono ?_
  rintro e wc ⟨rfl, hBc⟩
  have belc : Below w.heap.size w wc := below_step belb belb.size hBc
  have HOc := Lib.hid (HOb.out.below hBc)
  clear belb hBc HOb hGb
  go_wp2_with (first
    | ((with_reducible refine at_slot 11 ?_); (refine arm_alloc (o := ⟨some 11, _, _, _, _, _⟩) rfl _ rfl (scs zs) z_sta ?_); intro H wd He hwd nwd)
    | ((with_reducible refine arm_store (o := ⟨none, _, _, _, _, _⟩) rfl _ _ _ rfl H 0 rfl (scs zs) rfl _ _ hwd (fitS zs_ok) (scs_one _) (sz_sta zs_ok) ?_); intro we hwe owe swe)
    | ((with_reducible refine at_slot 85 ?_); (refine arm_buildSlice (o := ⟨some 85, _, _, _, _, _⟩) rfl 0 _ rfl [] #[] (by simp) bs0 ?_); intro b1 wf hb1 hR1 hN1)
    | ((with_reducible refine at_slot 87 ?_); (refine arm_append2 (o := ⟨some 87, _, _, _, _, _⟩) rfl _ _ rfl we.heap.size (some ⟨b1, 0, none⟩) 0 0 [] rfl rfl (own_new hR1 (by have := hb1.out; omega)) q1 396 c1 bs rfl HL1.out.symm (fun e => (own_some HOc.out HL1.out e).elim) ((HOc.out.below (below_only nwd.below owe (by have := He.out; omega) nwd.below.size)).below hN1.below).bytes (by rw [HL1.out]; simp) (by have := hN1.below.size; omega) ?_); intro p2 cap2 wg hO2 hS2)
    | ((with_reducible refine at_slot 88 ?_); (refine arm_buildSlice (o := ⟨some 88, _, _, _, _, _⟩) rfl 1 _ rfl [.int .u8 0] #[(0, .int .u8 0)] (by simp [Act.eval]) (bs1 _) ?_); intro b3 wh hb3 hR3 hN3)
    | ((with_reducible refine at_slot 89 ?_); (refine arm_append2 (o := ⟨some 89, _, _, _, _, _⟩) rfl _ _ rfl we.heap.size p2 (0 + 396) cap2 ([] ++ bs) (by rw [List.nil_append, HL1.out]) rfl (hO2.below hN3.below) (some ⟨b3, 0, none⟩) 1 1 [0] rfl rfl (fun e => by cases e) (own_row (bs := [0]) hR3 (Nat.le_refl b3) (by simp)).bytes (by rw [List.nil_append, HL1.out]; simp) (by have := hN1.below.size; have := hS2.size; have := hN3.below.size; omega) ?_); intro p4 cap4 wi hO4 hS4))
  have eH := He.out; have zd := nwd.size; have ze := swe.out; have zf := hN1.size; have zg := hS2.size; have zh3 := hN3.size; have zc := belc.size
  have bele : Below w.heap.size w we := below_only (below_step belc zc nwd.below) owe (by omega) (by omega)
  have hx : Below we.heap.size we wi := ((hN1.below.trans (hS2.below (fun k e => by cases e) (fun k e => by have := hb1.out; have := Option.some.inj e; simp at this; omega) hN1.below.size)).trans (hN3.below.mono (by omega))).trans (hS4.below (fun k e => by cases e) (own_low hO2) (by omega))
  have beli : Below w.heap.size w wi := below_step bele bele.size hx
  have hO5 : Bt.Own wi we.heap.size p4 cap4 (bs ++ [0]) := by simpa using hO4
  have HO5 := Lib.hid hO5
  clear eH zd ze zf zg zh3 zc bele hx hO5 hO4 hO2 hS2 hS4 hN1 hN3 hR1 hR3 hb1 hb3 belc hwd nwd hwe owe swe He HOc
  refine (CLO.out p4 cap4 wi HO5.out.rd (fun e => by have := own_none HO5.out e; simp at this)).mono ?_
  rintro e wj ⟨rfl, hBj⟩
  have belj : Below w.heap.size w wj := below_step beli beli.size hBj
  clear beli hBj HO5
  go_wp2_with (first
    | ((with_reducible refine at_slot 13 ?_); (refine arm_alloc (o := ⟨some 13, _, _, _, _, _⟩) rfl _ rfl (scs zs) z_sta ?_); intro I wk Ie hwk nwk)
    | ((with_reducible refine arm_store (o := ⟨none, _, _, _, _, _⟩) rfl _ _ _ rfl I 0 rfl (scs zs) rfl _ _ hwk (fitS zs_ok) (scs_one _) (sz_sta zs_ok) ?_); intro wl hwl owl swl))
  have eI := Ie.out; have zk := nwk.size; have zj := belj.size; have zl := swl.out
  have bell : Below w.heap.size w wl := below_only (below_step belj zj nwk.below) owl (by omega) (by omega)
  clear eI zk zj zl belj hwk nwk hwl owl swl Ie
  refine (CRB.out wl (HP.out.below bell)).mono ?_
  rintro e wm ⟨rfl, hBm⟩
  have belm : Below w.heap.size w wm := below_step bell bell.size hBm
  clear bell hBm
  go_wp2_with (first
    | ((with_reducible refine at_slot 15 ?_); (refine arm_alloc (o := ⟨some 15, _, _, _, _, _⟩) rfl _ rfl (scs zs) z_sta ?_); intro U wn Ue hwn nwn)
    | ((with_reducible refine arm_store (o := ⟨none, _, _, _, _, _⟩) rfl _ _ _ rfl U 0 rfl (scs u) rfl _ _ hwn (fitS KU.out) (scs_one _) (sz_sta KU.out) ?_); intro wo hwo owo swo))
  have eU := Ue.out; have zn := nwn.size; have zm := belm.size; have zo := swo.out
  have belo : Below w.heap.size w wo := below_only (below_step belm zm nwn.below) owo (by omega) (by omega)
  go_ret
  exact ⟨rfl, belo⟩
theorem stateBack_any (s t : Sta) (b : List Nat) (p : Option Addr) (cap : Nat) (w : World) (ks1 : s.Ok) (kt : t.Ok) (hp : Rd w p b) (hn : p = none → b.length = 0 ∧ cap = 0) (hlt : AllLt 256 b) (hk : w.rangeAt 0 0 (u32s ks)) :
    Calls Tryd.prog 5 #[.agg (scs s).toArray, .agg (scs t).toArray, .slice p b.length cap] w fun e w' => e = .returned (.bool true) ∧ Below w.heap.size w w' := by
  by_cases hl : b.length ≤ 1000
  · by_cases hc : SRt s
    · by_cases hg : (rdS b).2 = 0
      · exact back_rg s t b p cap w ks1 kt hp hn hlt hk hl hc hg
      · exact back_rb s t b p cap w ks1 kt hp hn hlt hk hl hc hg
    · by_cases hg : (rdS b).2 = 0
      · exact back_ng s t b p cap w ks1 kt hp hn hlt hk hl hc hg
      · exact back_nb s t b p cap w ks1 kt hp hn hlt hk hl hc hg
  · exact back_long s t b p cap w ks1 kt hp hn hlt hk (by omega)
end Go.Proofs.YtddnolppjlbibaaDoor.Sa
