/-
  The contracts of wire's Reader (Text, Hash), over this seat's translation.
-/
import Derived.Test.YticdapgfjkhoaaaWireRead2
import Derived.Test.YticdapgfjkhoaaaDigEq
namespace Go.Proofs.Yticdapgfjkhoaaa.Wi
open Go.ChangeShapes Go.WideShapes Go.ChangeAt Go.RowKit Go.Proofs.Yticdapgfjkhoaaa.Mem Go.Proofs.Yticdapgfjkhoaaa.Bt Go.Proofs.Yticdapgfjkhoaaa.Tg
set_option linter.unusedVariables false

theorem takeR_left (k : Nat) (s : RS) : (takeR k s).2.1.length ≤ s.1.length := by
  unfold takeR; split
  · simp
  · simp
/-- What Text leaves. -/
structure TextPost (w : World) (R d : Nat) (bs : List Nat) (s : RS) (e : Ending) (w' : World) : Prop where
  ex : ∃ q c, e = .returned (.slice q bs.length c) ∧ Rd w' q bs
  at_ : RdAt w' R d s
  only : Only R w w'
set_option maxRecDepth 100000 in
theorem rText_any (m : Int) (R d : Nat) (s : RS) (w : World) (h : RdAt w R d s) (hm : s.1.length ≤ 1000000) :
    Calls Try.prog 21 #[.pointer (some ⟨R, 0, none⟩), .int .i64 m] w (TextPost w R d (textR m s).1 (textR m s).2) := by
  have hlt := numR_lt (k := 1) h.lt
  have H := Lib.hid h; clear h
  have hle : (numR 1 s).2.1.length ≤ 1000000 := Nat.le_trans (takeR_left 1 s) hm
  by_cases hb : m < ((numR 1 s).1 : Int)
  · have HT : Hid (textR m s = ([], ([], failed (numR 1 s).2.2 4))) := Lib.hid (by unfold textR; rw [if_pos hb])
    rw [HT.out]
    go_enter Try.func21, Try.ntmps21
    go_wp2_with fail
    refine (rByte_any R d s w H.out hm).mono ?_
    rintro e w1 ⟨rfl, hA, hO⟩
    have hd : decide (m < ((numR 1 s).1 : Int)) = true := decide_eq_true hb
    generalize (numR 1 s).1 = n at hlt hd ⊢
    clear hb HT
    go_wp2_with fail
    refine (rFail_any 4 R d _ w1 hA).mono ?_
    rintro e w2 ⟨rfl, hA2, hO2⟩
    go_wp2_with fail
    go_ret
    exact ⟨⟨none, 0, rfl, ⟨fun h => absurd rfl h⟩⟩, hA2, hO.trans hO2⟩
  · have HT : Hid (textR m s = takeR (numR 1 s).1 (numR 1 s).2) := Lib.hid (by unfold textR; rw [if_neg hb])
    rw [HT.out]
    go_enter Try.func21, Try.ntmps21
    go_wp2_with fail
    refine (rByte_any R d s w H.out hm).mono ?_
    rintro e w1 ⟨rfl, hA, hO⟩
    have hd : decide (m < ((numR 1 s).1 : Int)) = false := decide_eq_false (by omega)
    generalize hn : (numR 1 s).1 = n at hlt hd ⊢
    have HN := Lib.hid hn
    clear hb HT hn
    go_wp2_with fail
    refine (rTake_any n R d _ w1 hA (by omega) hle).mono ?_
    rintro e w2 ⟨⟨q, c, rfl, hrd, hnil⟩, hA2, hO2⟩
    have hl2 := takeR_len n (numR 1 s).2
    have HRD := Lib.hid hrd; have HNIL := Lib.hid hnil; have HA2 := Lib.hid hA2
    clear hrd hnil hA2
    go_wp2_with fail
    refine (clone_any _ q c w2 HRD.out HNIL.out (by omega)).mono ?_
    rintro e w3 ⟨⟨q3, c3, rfl, hO3⟩, hB3⟩
    go_wp2_with fail
    go_ret
    rw [HN.out]
    exact ⟨⟨q3, c3, rfl, hO3.rd⟩, HA2.out.old hB3, (hO.trans hO2).trans (Only.of_below R hB3)⟩
section
variable {P : Program} {o : Oper} {a : Act} {w : World}
/-- 'copy(dst, src)' into a row, run; src may be nil. -/
theorem run_op_copy (d s : Operand) (dT sT : TypeId) (ho : o.op = .call { callee := .builtin .copy, args := #[d, s], argTypes := #[dT, sT] }) (e : TypeId) (hu : P.underlying dT = some (.slice e)) (hse : (P.info? e).map (·.size) = some 1)
    (b off dLen dCap : Nat) (hd : a.eval d = .slice (some ⟨b, off, none⟩) dLen dCap) (q : Option Addr) (sLen sCap : Nat) (hs : a.eval s = .slice q sLen sCap) (vs : List Value) (hvm : vs.length = sLen) (hm : sLen ≤ dLen) (hv : vs ≠ [] → ∃ g go, q = some ⟨g, go, none⟩ ∧ w.rangeAt g go vs)
    (hq : q = none → sLen = 0) (u : TypeId) (cs : List Value) (hr : Row w b u cs) (hf : off + vs.length ≤ cs.length) (h1 : OneCells vs) :
    ∃ w', (execOp a.eval o).run P w = .ok (.value (.int .i64 (sLen : Int))) w' ∧ Row w' b u (lay cs off vs) ∧ Only b w w' := by
  subst hvm
  obtain ⟨dst, op, ty, pos, after, guard⟩ := o
  simp only at ho
  subst ho
  have hmin : Nat.min vs.length dLen = vs.length := Nat.min_eq_left hm
  cases q with
  | none =>
    have hnil : vs = [] := List.eq_nil_of_length_eq_zero (hq rfl)
    subst hnil
    refine ⟨w, ?_, by unfold lay; simpa using hr, Only.refl _ _⟩
    rw [BigFrame.execOp_builtin, BigFrame.builtin_copy]
    cases hi : P.info? e with
    | none => simp [hi] at hse
    | some ie =>
      simp only [List.map_toArray, List.map_cons, List.map_nil, hd, hs]
      simp [Builtin.copy_, run_underlying hu, Builtin.lenOf, Builtin.firstCells, sizeOf, typeInfo, hi, storeCells, goInt]
  | some ad =>
    have hv2 : ∀ j v, vs[j]? = some v → w.cell? (ad.add j) = some v := fun j v hj => by
      obtain ⟨g, go, e, hr⟩ := hv (by intro e; subst e; simp at hj)
      rw [Option.some.inj e, Addr.add_mid]
      exact hr j v hj
    have hc := run_copy_row P w dT sT ty e b off dLen dCap ad vs.length sCap cs.toArray u vs hu hse hr hmin.symm hv2 (by simpa using hf) h1
    refine ⟨_, ?_, row_setRow hr (lay cs off vs), Only.setRow _ _ _⟩
    rw [BigFrame.execOp_builtin, BigFrame.builtin_copy]
    simp only [List.map_toArray, List.map_cons, List.map_nil, hd, hs, Sem.run_bind, hc, Result.andThen_ok, Sem.run_pure, goInt, lay]
end
theorem z_hash : Mem.Zero Try.prog 31 (u8s (List.replicate 32 0)) := by unfold Mem.Zero; kernel_rfl
theorem sz_hash : Sized Try.prog 31 32 := ⟨.array 32 5, by kernel_rfl, rfl, by kernel_rfl⟩
theorem hashR_len (s : RS) : (hashR s).1.length = 32 := by
  unfold hashR
  by_cases h : 32 ≤ s.1.length
  · simp only [if_pos h, List.length_take]; omega
  · simp only [if_neg h, List.length_replicate]
theorem hashR_lay (s : RS) : lay (u8s (List.replicate 32 0)) 0 (u8s (takeR 32 s).1) = u8s (hashR s).1 := by
  unfold hashR takeR
  by_cases h : 32 ≤ s.1.length
  · simp only [if_pos h]
    exact lay_all _ _ (by rw [u8s_length, u8s_length, List.length_take, List.length_replicate]; omega)
  · simp only [if_neg h]
    unfold lay u8s
    simp
set_option maxHeartbeats 1000000 in
set_option maxRecDepth 100000 in
theorem rHash_any (R d : Nat) (s : RS) (w : World) (h : RdAt w R d s) (hm : s.1.length ≤ 1000000) :
    Calls Try.prog 19 #[.pointer (some ⟨R, 0, none⟩)] w (RdPost w R d (.agg (u8s (hashR s).1).toArray) (hashR s).2) := by
  have hRlt := h.row_lt
  have hd := h.dlt
  have H := Lib.hid h; clear h
  obtain ⟨zs, hzs⟩ : ∃ zs : List Nat, zs = List.replicate 32 0 := ⟨_, rfl⟩
  have HZ := Lib.hid hzs
  have HZL := Lib.hid (show zs.length = 32 by rw [hzs]; simp)
  have HZ0 : Hid (Mem.Zero Try.prog 31 (u8s zs)) := Lib.hid (by rw [hzs]; exact z_hash)
  clear hzs
  go_enter Try.func19, Try.ntmps19
  go_wp2_with (first
    | ((with_reducible refine at_slot 2 ?_); (refine arm_alloc (o := ⟨some 2, _, _, _, _, _⟩) rfl _ rfl _ HZ0.out ?_); intro T w1 hT hR1 hN1)
    | ((with_reducible refine at_slot 3 ?_); (refine arm_alloc (o := ⟨some 3, _, _, _, _, _⟩) rfl _ rfl _ HZ0.out ?_); intro B w2 hB hR2 hN2))
  have eT := hT.out; have eB := hB.out; have s1 := hN1.size
  have belz : Below w.heap.size w w2.drew := (below_step hN1.below hN1.below.size hN2.below).trans ((Below.refl _ _).drew)
  have hTz : Row w2.drew T 31 (u8s zs) := show Row w2 T 31 (u8s zs) from hR1.old hN2.below
  have hBz : Row w2.drew B 31 (u8s zs) := hR2
  have HAz := Lib.hid (H.out.old belz)
  have lT : w.heap.size ≤ T := by omega
  have lB : w.heap.size ≤ B := by omega
  have HNE : Hid (T ≠ R ∧ B ≠ R ∧ T ≠ B) := Lib.hid ⟨by omega, by omega, by omega⟩
  clear eT eB s1 hT hB hR1 hN1 hR2 hN2 hRlt
  refine wp_region_held (S := fun w' => True) (by kernel_rfl) ?_
  change wpAnyH _ _ _ _ _ _ _ _ w2.drew
  generalize w2.drew = wz at belz hTz hBz HAz ⊢
  have hS : True := True.intro
  refine h_take 0 (.slice (some ⟨B, 0, none⟩) 32 32) rfl 4 rfl (by kernel_rfl) (by kernel_rfl) (by kernel_rfl) (by kernel_rfl) (fun _ _ _ h => h) (fun w' _ => run_op_sliceAll _ _ rfl 32 5 (by kernel_rfl) (by kernel_rfl) B 0 rfl (by omega) w') hS ?_
  simp only [Act.put, List.setIfInBounds_toArray, List.set_cons_zero, List.set_cons_succ]
  refine h_take 1 (.pointer (some ⟨R, 0, none⟩)) rfl 5 rfl (by kernel_rfl) (by kernel_rfl) (by kernel_rfl) (by kernel_rfl) (fun _ _ _ h => h) (fun w' _ => by kernel_rfl) hS ?_
  simp only [Act.put, List.setIfInBounds_toArray, List.set_cons_zero, List.set_cons_succ]
  refine h_one (i := 2) (by kernel_rfl) (o_call rfl 6 rfl (by kernel_rfl) (run_op_call 36 _ _ rfl #[.pointer (some ⟨R, 0, none⟩), .int .i64 32] (by simp only [List.map_toArray, List.map_cons, List.map_nil]; rfl) Try.func36 (by kernel_rfl) (by kernel_rfl) wz) (rTake_any 32 R d s wz HAz.out (by omega) hm) ?_)
  rintro e y1 ⟨⟨q, c, rfl, hrd, hnil⟩, hA1, hO1⟩
  refine ⟨_, rfl, hS, ?_⟩
  simp only [Act.put, List.setIfInBounds_toArray, List.set_cons_zero, List.set_cons_succ]
  have hB1 := hBz.only hO1 HNE.out.2.1
  have hT1 := hTz.only hO1 HNE.out.1
  have hlen := takeR_len 32 s
  obtain ⟨y2, hr2, hB2, hO2⟩ := run_op_copy (P := Try.prog) (w := y1) (o := ⟨some 7, .call { callee := .builtin .copy, args := #[.tmp 4, .tmp 6], argTypes := #[26, 26] }, 3, "wire.go:80", #[⟨0, .data⟩, ⟨2, .data⟩, ⟨2, .chain⟩], none⟩) (a := { tmps := #[.pointer (some ⟨R, 0, none⟩), undef, .pointer (some ⟨T, 0, none⟩), .pointer (some ⟨B, 0, none⟩), .slice (some ⟨B, 0, none⟩) 32 32, .pointer (some ⟨R, 0, none⟩), .slice q (takeR 32 s).1.length c, undef, undef], defers := [] })
    _ _ 26 26 rfl 5 (by kernel_rfl) (by kernel_rfl) B 0 32 32 rfl q (takeR 32 s).1.length c rfl (u8s (takeR 32 s).1) (u8s_length _) hlen (fun hne => hrd.at_ (by intro e; apply hne; rw [e]; rfl)) (fun e => (hnil e).1) _ _ hB1 (by rw [u8s_length, u8s_length, HZL.out]; omega) (u8s_one _)
  refine h_one (i := 3) (by kernel_rfl) (o_value _ rfl 7 rfl (by kernel_rfl) hr2 ?_)
  refine ⟨hS, ?_⟩
  simp only [Act.put, List.setIfInBounds_toArray, List.set_cons_zero, List.set_cons_succ]
  refine wpAnyH_done (by kernel_rfl) ?_ _
  have hT2 := hT1.only hO2 HNE.out.2.2
  have hB3 : Row y2 B 31 (u8s (hashR s).1) := hB2.congr (by rw [HZ.out]; exact hashR_lay s)
  have HA2 : Hid (RdAt y2 R d (hashR s).2) := Lib.hid (hA1.other hO2 (Ne.symm HNE.out.2.1) (by omega))
  have HHL := Lib.hid (hashR_len s)
  have hOa : Only R w y1 := (Only.of_below R belz).trans hO1
  clear hr2 hrd hnil hB1 hT1 hB2 hA1 hS
  generalize hhv : (hashR s).1 = hv at hB3 HHL
  have HHV := Lib.hid hhv; clear hhv
  go_wp2_with (first
    | ((with_reducible refine at_slot 8 ?_); (refine arm_load (o := ⟨some 8, _, _, _, _, _⟩) rfl _ _ rfl B 0 rfl (u8s hv) (hB3.range 0 _ (fun j v hj => by rw [Nat.zero_add]; exact hj)) (by rw [u8s_length, HHL.out]; exact sz_hash) ?_))
    | ((with_reducible refine arm_store (o := ⟨none, _, _, _, _, _⟩) rfl _ _ _ rfl T 0 rfl (u8s hv) rfl _ _ hT2 (by rw [u8s_length, u8s_length, HHL.out, HZL.out]; omega) (u8s_one _) (by rw [u8s_length, HHL.out]; exact sz_hash) ?_); intro w4 hR4 hO4 hS4))
  refine bodyPost_ret (v := .agg (u8s hv).toArray) (result_row (p := 2) (ty := 31) (u := 31) (by kernel_rfl) _ _ T _ rfl (hR4.congr (lay_all _ _ (by rw [u8s_length, u8s_length, HHL.out, HZL.out]))) (by rw [u8s_length, HHL.out]; exact sz_hash)) rfl ⟨by rw [HHV.out], ?_, only_new (only_new hOa hO2 lB) hO4 lT⟩
  exact HA2.out.other hO4 (Ne.symm HNE.out.1) (by omega)
end Go.Proofs.Yticdapgfjkhoaaa.Wi
