/-
  The walk of layer 3's statement TagKnows over this seat's translation, out of the contracts: it returns true, and changes nothing that was there.
-/
import Derived.Test.YtebfdbibeecncaaDoorTagLaws2
namespace Go.Proofs.YtebfdbibeecncaaDoor.Tg
open Go.ChangeShapes Go.WideShapes Go.ChangeAt Go.RowKit Go.Proofs.YtebfdbibeecncaaDoor.Num Go.Proofs.YtebfdbibeecncaaDoor.Mem Go.Proofs.YtebfdbibeecncaaDoor.Bt Go.Proofs.YtebfdbibeecncaaDoor.Sha Go.Proofs.YtebfdbibeecncaaDoor.Mp
set_option linter.unusedVariables false

theorem key_ask : KeyType 41 := ⟨by kernel_rfl, by kernel_rfl, ⟨(Tryd.prog.fieldsOf 41)[0]!, (Tryd.prog.fieldsOf 41)[1]!, by kernel_rfl, of_decide_eq_true (by kernel_rfl), of_decide_eq_true (by kernel_rfl), by kernel_rfl, by kernel_rfl, by kernel_rfl, by kernel_rfl⟩⟩
theorem kind_ask : KeyKind Tryd.prog 41 keyV keyOk := key_kind _ key_ask
theorem und_map2 : Tryd.prog.underlying 39 = some (.map 41 3) := by kernel_rfl
theorem zero_int (w : World) : (zeroValue 3).run Tryd.prog w = .ok (.int .i64 0) w := by kernel_rfl
theorem z_ask : Mem.Zero Tryd.prog 41 (Value.string ⟨#[]⟩ :: u8s (List.replicate 32 0)) := by unfold Mem.Zero; kernel_rfl
theorem sz_ask : Sized Tryd.prog 41 33 := ⟨.struct (Tryd.prog.fieldsOf 41), by kernel_rfl, rfl, by kernel_rfl⟩
/-- Asks that came in. -/
structure Asks (w : World) (P : Option Addr) (l : List Key) : Prop where
  at_ : 0 < l.length → ∃ g o, P = some ⟨g, o, none⟩ ∧ g < w.heap.size ∧ ∀ i, i < l.length → w.rangeAt g (o + i * 33) (keyCells (l.getD i (⟨#[]⟩, []))) ∧ keyOk (l.getD i (⟨#[]⟩, [])) ∧ AllLt 256 (l.getD i (⟨#[]⟩, [])).2
theorem came_at {w : World} {b o : Nat} {h : List Nat} (hr : w.rangeAt b o (u8s h)) (hl : h.length = 32) (hlt : AllLt 256 h) : Came w (some ⟨b, o, none⟩) 32 h :=
  ⟨by omega, fun e => (by cases e), fun _ => ⟨b, o, rfl, hr⟩, hlt, by unfold maxLen; omega⟩
theorem key_hash {w : World} {X : Nat} {t : TypeId} {s : ByteArray} {hh : List Nat} (h : Row w X t (keyCells (s, hh))) : w.rangeAt X 1 (u8s hh) :=
  h.range 1 _ (fun j v hj => by rw [Nat.add_comm]; exact hj)
section
variable {P : Program} {ops : Array Oper} {rest : List Oper} {o : Oper} {a : Act} {w : World} {Q : Exit → Act → World → Prop}
/-- The address of an element of some cells. -/
theorem arm_indexN (hgd : o.guard = none) (t : TypeId) (x ix : Operand) (ho : o.op = .indexAddr t x ix) (e : TypeId) (n : Nat) (hu : P.underlying t = some (.slice e)) (hse : (P.info? e).map (·.size) = some n)
    (g off len cap : Nat) (hx : a.eval x = .slice (some ⟨g, off, none⟩) len cap) (kk : IntKind) (k : Nat) (hi : a.eval ix = .int kk (k : Int)) (hk : k < len) (h : wpList P ops Q rest (a.put o.dst (.pointer (some ⟨g, off + k * n, none⟩))) w) : wpList P ops Q (o :: rest) a w := by
  refine wpList_plain hgd fun K hK => ?_
  cases hq : P.info? e with
  | none => simp [hq] at hse
  | some ie =>
    have hs : ie.size = n := by simpa [hq] using hse
    have h3 : (⟨g, off, none⟩ : Addr).add (k * n) = ⟨g, off + k * n, none⟩ := Addr.add_mid g off (k * n)
    have hr : (execOp a.eval o).run P w = .ok (.value (.pointer (some ⟨g, off + k * n, none⟩))) w := by
      unfold execOp
      simp [ho, hx, hi, Instr.indexAt, asIntOf, run_underlying hu, sizeOf, typeInfo, hq, hs, hk, h3]
    unfold Oper.wp
    rw [hr]
    exact hK _ _ h
end
/-- What holds in TagKnows' loop. -/
structure KnRel (w : World) (M bm bk n : Nat) (room : Int) (i : Value) (wr : World) : Prop where
  ex : ∃ k : Nat, k ≤ n ∧ i = .int .i64 k ∧ ∃ K : List Key, K.length ≤ k ∧ MemoAt wr M bm room K ∧ MapAt wr bk keyV (K.map fun x => (x, (.int .i64 1 : Value)))
  bel : Below w.heap.size w wr
theorem grown_len (K : List Key) (room : Int) (x : Key) : (grown K room x).length ≤ K.length + 1 := by
  unfold grown; split
  · omega
  · split
    · simp
    · omega

set_option maxRecDepth 100000 in
theorem tagKnows_big (room : Int) (n : Nat) (P : Option Addr) (cap : Nat) (w : World) (h : room < 0 ∨ 60 < n) (hm : n ≤ maxLen)
    (hk : w.rangeAt 1 0 (u32s ks)) (hk2 : w.rangeAt 0 0 (u32s ks)) :
    Calls Tryd.prog 5 #[.int .i64 room, .slice P n cap] w fun e w' => e = .returned (.bool true) ∧ Below w.heap.size w w' := by
  unfold maxLen at hm
  have HKS := Lib.hid (And.intro hk hk2)
  clear hk hk2
  by_cases h1 : room < 0
  · have hd1 : decide (room < 0) = true := decide_eq_true h1
    go_enter Tryd.func5, Tryd.ntmps5
    go_wp2_with fail
    refine (awake_any w HKS.out.1 HKS.out.2).mono ?_
    rintro e w1 ⟨rfl, h2⟩
    go_wp2_with fail
    go_ret
    exact ⟨rfl, h2⟩
  · have hd1 : decide (room < 0) = false := decide_eq_false h1
    have hd2 : decide ((60 : Int) < (n : Int)) = true := decide_eq_true (by omega)
    go_enter Tryd.func5, Tryd.ntmps5
    go_wp2_with fail
    refine (awake_any w HKS.out.1 HKS.out.2).mono ?_
    rintro e w1 ⟨rfl, h2⟩
    go_wp2_with fail
    go_ret
    exact ⟨rfl, h2⟩

set_option maxHeartbeats 4000000 in
set_option maxRecDepth 100000 in
theorem tagKnows_small (room : Int) (l : List Key) (P : Option Addr) (capL : Nat) (w : World) (hr : 0 ≤ room) (hn : l.length ≤ 60) (hl : Asks w P l)
    (hk : w.rangeAt 1 0 (u32s ks)) (hk2 : w.rangeAt 0 0 (u32s ks)) :
    Calls Tryd.prog 5 #[.int .i64 room, .slice P l.length capL] w fun e w' => e = .returned (.bool true) ∧ Below w.heap.size w w' := by
  have hk1 : 1 < w.heap.size := range_lt hk (by simp [u32s, ks])
  have HKW : Hid (∀ w', Below w.heap.size w w' → w'.rangeAt 1 0 (u32s ks)) := Lib.hid fun w' hb => range_block hk (hb.block _ hk1)
  have HKS := Lib.hid (And.intro hk hk2)
  have HL := Lib.hid hl
  clear hk hk2 hl
  have hd1 : decide (room < 0) = false := decide_eq_false (by omega)
  have hd2 : decide ((60 : Int) < (l.length : Int)) = false := decide_eq_false (by omega)
  go_enter Tryd.func5, Tryd.ntmps5
  go_wp2_with fail
  refine (awake_any w HKS.out.1 HKS.out.2).mono ?_
  rintro e w1 ⟨rfl, h1⟩
  go_wp2_with fail
  refine (newMemo_any room w1).mono ?_
  rintro e w2 ⟨⟨M, bm, rfl, hM, hbm, hMemo⟩, hB2⟩
  have bel2 : Below w.heap.size w w2 := below_step h1 h1.size hB2
  have lM : w.heap.size ≤ M := Nat.le_trans h1.size hM
  have lbm : w.heap.size ≤ bm := Nat.le_trans h1.size hbm
  clear hd1 hd2 hB2 hM hbm h1
  go_wp2_with (first
    | ((with_reducible refine at_slot 22 ?_); (refine arm_makeMap (o := ⟨some 22, _, _, _, _, _⟩) rfl _ rfl keyV ?_); intro bk w3 hbk hmk hN3))
  have ebk := hbk.out
  have rM := hMemo.row.lt
  have rbm := hMemo.map_.lt
  have lbk : w.heap.size ≤ bk := by have := bel2.size; omega
  have nMk : M ≠ bk := by omega
  have nmk : bm ≠ bk := by omega
  have nMm : M ≠ bm := fun e => hMemo.apart e.symm
  have nkm : 1 ≠ bm := by omega
  have HN := Lib.hid (And.intro (And.intro nMk nmk) (And.intro nMm nkm))
  have h0 : KnRel w M bm bk l.length room (.int .i64 0) w3 := ⟨⟨0, by omega, rfl, [], by simp, hMemo.old hN3.below, hmk⟩, below_step bel2 bel2.size hN3.below⟩
  clear ebk rM rbm nMk nmk nMm nkm hbk hmk hN3 hMemo bel2 w1 w2
  go_loopw [25] (fun i wr => KnRel w M bm bk l.length room i wr) (fun i _ => l.length - (intOf i).toNat)
  case atStart => exact h0
  case round =>
    clear h0
    obtain ⟨⟨k, hkn, rfl, K, hKl, hMr, hKr⟩, hbel⟩ := hrel
    by_cases hlt : k < l.length
    · obtain ⟨g, o, rfl, hg, hrows⟩ := HL.out.at_ (by omega)
      obtain ⟨hrg, hok, h256⟩ := hrows k hlt
      have hrg' : wr.rangeAt g (o + k * 33) (keyCells (l.getD k (⟨#[]⟩, []))) := range_block hrg (hbel.block g hg)
      clear hrows hrg
      generalize l.getD k (⟨#[]⟩, []) = x at hrg' hok h256
      obtain ⟨s, hh⟩ := x
      have HX := Lib.hid hok; have HXL := Lib.hid h256
      have HH : Hid (hh.length = 32) := HX
      have HKLx := Lib.hid (keyCells_len (s, hh) hok)
      obtain ⟨kc, hkc⟩ : ∃ kc, kc = keyCells (s, hh) := ⟨_, rfl⟩
      rw [← hkc] at hrg'
      have HKC := Lib.hid hkc
      have HKL : Hid (kc.length = 33) := Lib.hid (by rw [hkc]; exact HKLx.out)
      have HK1 : Hid (OneCells kc) := Lib.hid (by rw [hkc]; exact keyCells_one _)
      clear hkc hok h256 HKLx
      have ik : (k : Int) < (l.length : Int) := by omega
      have hws : w.heap.size ≤ wr.heap.size := hbel.size
      by_cases hs255 : s.size ≤ 255
      · have hd3 : decide ((255 : Int) < (s.size : Int)) = false := decide_eq_false (by omega)
        go_wp2_with (first
          | ((with_reducible refine at_slot 27 ?_); (refine arm_indexN (o := ⟨some 27, _, _, _, _, _⟩) rfl _ _ _ rfl 41 33 (by kernel_rfl) (by kernel_rfl) g o _ _ rfl .i64 k rfl hlt ?_))
          | ((with_reducible refine at_slot 28 ?_); (refine arm_load (o := ⟨some 28, _, _, _, _, _⟩) rfl _ _ rfl g (o + k * 33) rfl kc hrg' (by rw [HKL.out]; exact sz_ask) ?_))
          | ((with_reducible refine at_slot 8 ?_); (refine arm_alloc (o := ⟨some 8, _, _, _, _, _⟩) rfl _ rfl _ z_ask ?_); intro X w4 hXe hR4 hN4)
          | ((with_reducible refine arm_store (o := ⟨none, _, _, _, _, _⟩) rfl _ _ _ rfl X 0 rfl kc rfl _ _ hR4 (by rw [HKL.out, List.length_cons, u8s_length, List.length_replicate]; omega) HK1.out (by rw [HKL.out]; exact sz_ask) ?_); intro w5 hR5 hO5 hS5; have cX0 : w5.cell? ⟨X, 0, none⟩ = some (.string s) := (hR5.congr (lay_all _ _ (by rw [HKL.out, List.length_cons, u8s_length, List.length_replicate]))).cell (by rw [HKC.out]; rfl)))
        have eX := hXe.out
        have hX5 : Row w5 X 41 kc := hR5.congr (lay_all _ _ (by rw [HKL.out, List.length_cons, u8s_length, List.length_replicate]))
        have bel45 : Below wr.heap.size wr w5 := below_only hN4.below hO5 (by omega) hN4.below.size
        have rm := hMr.map_.lt
        have rk := hKr.lt
        have HXn : Hid (X ≠ bm ∧ X ≠ bk) := Lib.hid ⟨by omega, by omega⟩
        have belz : Below w.heap.size w w5.drew := (below_step hbel hbel.size bel45).trans ((Below.refl _ _).drew)
        have hXz : Row w5.drew X 41 kc := hX5
        have hMz : MemoAt w5.drew M bm room K := (hMr.old bel45).old ((Below.refl _ _).drew)
        have hKz : MapAt w5.drew bk keyV (K.map fun x => (x, (.int .i64 1 : Value))) := (hKr.old bel45).old ((Below.refl _ _).drew)
        have HKO := Lib.hid hMr.ok_
        have HDV : Hid (dV (s, hh) = .agg (u8s (tagD s [hh])).toArray) := Lib.hid rfl
        have HDL := Lib.hid (tagD_len s [hh])
        generalize htd : tagD s [hh] = dg at HDV HDL
        have HTD := Lib.hid htd; clear htd
        refine wp_region_held (S := fun w' => Row w' X 41 kc) (by kernel_rfl) ?_
        change wpAnyH _ _ _ _ _ _ _ _ w5.drew
        clear eX rm rk hXe hR4 hN4 hR5 hO5 hS5 cX0 hX5 bel45 hMr hKr hbel hrg' hws hd3
        generalize w5.drew = wz at belz hXz hMz hKz ⊢
        have hS : Row wz X 41 kc := hXz
        refine h_take 0 (.pointer (some ⟨M, 0, none⟩)) rfl 33 rfl (by kernel_rfl) (by kernel_rfl) (by kernel_rfl) (by kernel_rfl) (fun _ _ _ h => h) (fun w' _ => by kernel_rfl) hS ?_
        simp only [Act.put, List.setIfInBounds_toArray, List.set_cons_zero, List.set_cons_succ]
        refine h_take 1 (.pointer (some ⟨X, 0, none⟩)) rfl 34 rfl (by kernel_rfl) (by kernel_rfl) (by kernel_rfl) (by kernel_rfl) (fun _ _ _ h => h) (fun w' _ => by kernel_rfl) hS ?_
        simp only [Act.put, List.setIfInBounds_toArray, List.set_cons_zero, List.set_cons_succ]
        refine h_take 2 (.string s) rfl 35 rfl (by kernel_rfl) (by kernel_rfl) (by kernel_rfl) (by kernel_rfl) (fun _ _ _ h => h) (fun w' hC => run_op_load1 _ _ rfl .string (by kernel_rfl) rfl _ rfl _ (hC.cell (by rw [HKC.out]; rfl))) hS ?_
        simp only [Act.put, List.setIfInBounds_toArray, List.set_cons_zero, List.set_cons_succ]
        refine h_take 3 (.pointer (some ⟨X, 1, none⟩)) rfl 36 rfl (by kernel_rfl) (by kernel_rfl) (by kernel_rfl) (by kernel_rfl) (fun _ _ _ h => h) (fun w' _ => by kernel_rfl) hS ?_
        simp only [Act.put, List.setIfInBounds_toArray, List.set_cons_zero, List.set_cons_succ]
        refine h_take 4 (.agg (u8s hh).toArray) rfl 37 rfl (by kernel_rfl) (by kernel_rfl) (by kernel_rfl) (by kernel_rfl) (fun _ _ _ h => h) (fun w' hC => run_op_load _ _ rfl X 1 rfl (u8s hh) (key_hash (hC.congr HKC.out)) (by rw [u8s_length, HH.out]; exact sz25)) hS ?_
        simp only [Act.put, List.setIfInBounds_toArray, List.set_cons_zero, List.set_cons_succ]
        refine h_take 6 (.pointer (some ⟨X, 0, none⟩)) rfl 39 rfl (by kernel_rfl) (by kernel_rfl) (by kernel_rfl) (by kernel_rfl) (fun _ _ _ h => h) (fun w' _ => by kernel_rfl) hS ?_
        simp only [Act.put, List.setIfInBounds_toArray, List.set_cons_zero, List.set_cons_succ]
        refine h_take 7 (.string s) rfl 40 rfl (by kernel_rfl) (by kernel_rfl) (by kernel_rfl) (by kernel_rfl) (fun _ _ _ h => h) (fun w' hC => run_op_load1 _ _ rfl .string (by kernel_rfl) rfl _ rfl _ (hC.cell (by rw [HKC.out]; rfl))) hS ?_
        simp only [Act.put, List.setIfInBounds_toArray, List.set_cons_zero, List.set_cons_succ]
        refine h_take 8 (.pointer (some ⟨X, 1, none⟩)) rfl 41 rfl (by kernel_rfl) (by kernel_rfl) (by kernel_rfl) (by kernel_rfl) (fun _ _ _ h => h) (fun w' _ => by kernel_rfl) hS ?_
        simp only [Act.put, List.setIfInBounds_toArray, List.set_cons_zero, List.set_cons_succ]
        refine h_take 9 (.slice (some ⟨X, 1, none⟩) 32 32) rfl 42 rfl (by kernel_rfl) (by kernel_rfl) (by kernel_rfl) (by kernel_rfl) (fun _ _ _ h => h) (fun w' _ => run_op_sliceAll _ _ rfl 32 5 (by kernel_rfl) (by kernel_rfl) X 1 rfl (by omega) w') hS ?_
        simp only [Act.put, List.setIfInBounds_toArray, List.set_cons_zero, List.set_cons_succ]
        refine h_two (i := 5) (j := 10) (by kernel_rfl) ?_ ?_
        · refine (o_call rfl 38 rfl (by kernel_rfl) (run_op_call 14 _ _ rfl #[.pointer (some ⟨M, 0, none⟩), .string s, .agg (u8s hh).toArray] (by simp only [List.map_toArray, List.map_cons, List.map_nil]; rfl) Tryd.func14 (by kernel_rfl) (by kernel_rfl) wz) (memoOf_any (s, hh) HX.out HXL.out M bm room K wz hMz (HKW.out wz belz) HN.out.2.2) ?_)
          rw [HDV.out]
          rintro e y1 ⟨rfl, hMe1, hO1⟩
          have hX1 := hXz.only hO1 HXn.out.1
          have hK1 := hKz.only hO1 (Ne.symm HN.out.1.2)
          have bl1 : Below w.heap.size w y1 := below_only belz hO1 lbm belz.size
          refine ⟨_, rfl, hX1, ?_⟩
          clear hO1
          simp only [Act.put, List.setIfInBounds_toArray, List.set_cons_zero, List.set_cons_succ]
          refine h_one (i := 10) (by kernel_rfl) (o_value _ rfl 43 rfl (by kernel_rfl) (run_op_one _ rfl (some ⟨X, 1, none⟩) 32 32 rfl _) ?_)
          have hN2 := new_alloc y1 (.cells #[.slice (some ⟨X, 1, none⟩) 32 32] 25)
          have hR2 : Row (y1.alloc (.cells #[.slice (some ⟨X, 1, none⟩) 32 32] 25)) y1.heap.size 25 [.slice (some ⟨X, 1, none⟩) 32 32] := heap_alloc_new _ _
          generalize y1.alloc (.cells #[.slice (some ⟨X, 1, none⟩) 32 32] 25) = y2 at hN2 hR2 ⊢
          have hX2 := hX1.old hN2.below
          have hK2 := hK1.old hN2.below
          have hMe2 := hMe1.old hN2.below
          have bl2 : Below w.heap.size w y2 := below_step bl1 bl1.size hN2.below
          refine ⟨hX2, ?_⟩
          simp only [Act.put, List.setIfInBounds_toArray, List.set_cons_zero, List.set_cons_succ]
          have hpt : Parts y2 (some ⟨y1.heap.size, 0, none⟩) [hh] := parts_one (p := some ⟨X, 1, none⟩) (c := 32) (by rw [HH.out]; exact hR2) (came_at (key_hash (hX2.congr HKC.out)) HH.out HXL.out)
          refine h_one (i := 11) (by kernel_rfl) (o_call rfl 44 rfl (by kernel_rfl) (run_op_call 11 _ _ rfl #[.string s, .slice (some ⟨y1.heap.size, 0, none⟩) 1 1] (by simp only [List.map_toArray, List.map_cons, List.map_nil]; rfl) Tryd.func11 (by kernel_rfl) (by kernel_rfl) y2) (tagOf_any s [hh] (some ⟨y1.heap.size, 0, none⟩) 1 y2 (by simp [total, HH.out]) hpt (HKW.out y2 bl2)) ?_)
          rw [HTD.out]
          rintro e wf ⟨rfl, hBf⟩
          have hXf := hX2.old hBf
          have hKf := hK2.old hBf
          have hMf := hMe2.old hBf
          have belf : Below w.heap.size w wf := below_step bl2 bl2.size hBf
          refine ⟨_, rfl, hXf, ?_⟩
          simp only [Act.put, List.setIfInBounds_toArray, List.set_cons_zero, List.set_cons_succ]
          clear hpt hBf bl2 hMe2 hK2 hX2 hR2 hN2 bl1 hK1 hX1 hMe1
          refine h_take 12 (.bool false) rfl 45 rfl (by kernel_rfl) (by kernel_rfl) (by kernel_rfl) (by kernel_rfl) (fun _ _ _ h => h) (fun w' _ => run_op_neq _ _ _ rfl dg HDL.out rfl rfl w') hXf ?_
          simp only [Act.put, List.setIfInBounds_toArray, List.set_cons_zero, List.set_cons_succ]
          refine wpAnyH_done (by kernel_rfl) ?_ _
          by_cases hmem : (s, hh) ∈ K
          · have HME := Lib.hid hmem; clear hmem
            have HG := Lib.hid (show grown K room (s, hh) = K by unfold grown; rw [if_pos HME.out])
            rw [HG.out] at hMf
            go_wp2_with (first
              | ((with_reducible refine at_slot 48 ?_); (refine arm_load (o := ⟨some 48, _, _, _, _, _⟩) rfl _ _ rfl X 0 rfl kc (hXf.range 0 _ (fun j v hj => by rw [Nat.zero_add]; exact hj)) (by rw [HKL.out]; exact sz_ask) ?_))
              | ((with_reducible refine at_slot 49 ?_); (refine arm_lookup (o := ⟨some 49, _, _, _, _, _⟩) rfl _ _ _ rfl rfl (s, hh) HX.out (by rw [HKC.out]; rfl) hKf kind_ask und_map2 (.int .i64 0) (zero_int _) (fun p hp => by obtain ⟨y, hy, rfl⟩ := List.mem_map.1 hp; exact HKO.out y hy) (.int .i64 1) (by rw [look_mem (fun _ => (.int .i64 1 : Value)) (s, hh) K HME.out]; rfl) true (by rw [look_mem (fun _ => (.int .i64 1 : Value)) (s, hh) K HME.out]; rfl) ?_)))
            refine (known_any M bm room K wf hMf).mono ?_
            rintro e wh ⟨rfl, rfl⟩
            go_wp2_with (first
              | ((with_reducible refine at_slot 65 ?_); (refine arm_len (o := ⟨some 65, _, _, _, _, _⟩) rfl _ _ rfl rfl hKf und_map2 ?_); rw [List.length_map]))
            go_roundw
            case rel => exact ⟨⟨k + 1, by omega, by go_num, K, by omega, hMf, hKf⟩, belf⟩
            case measure => simp [intOf]; omega
          · have HNM := Lib.hid hmem; clear hmem
            by_cases hroom : (K.length : Int) < room
            · have hlen : (Builtin.len_ #[39] 3 #[.map (some bk)]).run Tryd.prog wf = .ok (.int .i64 (K.length : Int)) wf := by have := hKf.len und_map2 3; rwa [List.length_map] at this
              have hdr : decide ((K.length : Int) < room) = true := decide_eq_true hroom
              have HG := Lib.hid (show grown K room (s, hh) = K ++ [(s, hh)] by unfold grown; rw [if_neg HNM.out, if_pos hroom])
              rw [HG.out] at hMf
              go_wp2_with (first
                | ((with_reducible refine at_slot 48 ?_); (refine arm_load (o := ⟨some 48, _, _, _, _, _⟩) rfl _ _ rfl X 0 rfl kc (hXf.range 0 _ (fun j v hj => by rw [Nat.zero_add]; exact hj)) (by rw [HKL.out]; exact sz_ask) ?_))
                | ((with_reducible refine at_slot 49 ?_); (refine arm_lookup (o := ⟨some 49, _, _, _, _, _⟩) rfl _ _ _ rfl rfl (s, hh) HX.out (by rw [HKC.out]; rfl) hKf kind_ask und_map2 (.int .i64 0) (zero_int _) (fun p hp => by obtain ⟨y, hy, rfl⟩ := List.mem_map.1 hp; exact HKO.out y hy) (.int .i64 0) (by rw [look_not (fun _ => (.int .i64 1 : Value)) (s, hh) K HNM.out]; rfl) false (by rw [look_not (fun _ => (.int .i64 1 : Value)) (s, hh) K HNM.out]; rfl) ?_))
                | ((with_reducible refine at_slot 61 ?_); (refine arm_load (o := ⟨some 61, _, _, _, _, _⟩) rfl _ _ rfl X 0 rfl kc (hXf.range 0 _ (fun j v hj => by rw [Nat.zero_add]; exact hj)) (by rw [HKL.out]; exact sz_ask) ?_))
                | ((refine arm_update (o := ⟨none, _, _, _, _, _⟩) rfl _ _ _ _ rfl rfl (s, hh) HX.out (by rw [HKC.out]; rfl) (.int .i64 1) rfl hKf kind_ask und_map2 (fun p hp => by obtain ⟨y, hy, rfl⟩ := List.mem_map.1 hp; exact HKO.out y hy) (look_not _ _ K HNM.out) ?_); intro wg hKg hOg hSg))
              have hMg := hMf.only hOg HN.out.1.1 HN.out.1.2
              have belg : Below w.heap.size w wg := below_only belf hOg lbk belf.size
              have hKg' : MapAt wg bk keyV ((K ++ [(s, hh)]).map fun x => (x, (.int .i64 1 : Value))) := by rw [List.map_append]; exact hKg
              clear hMf hKf hXf belf hOg hSg hKg
              refine (known_any M bm room (K ++ [(s, hh)]) wg hMg).mono ?_
              rintro e wh ⟨rfl, rfl⟩
              go_wp2_with (first
                | ((with_reducible refine at_slot 65 ?_); (refine arm_len (o := ⟨some 65, _, _, _, _, _⟩) rfl _ _ rfl rfl hKg' und_map2 ?_); rw [List.length_map]))
              go_roundw
              case rel => exact ⟨⟨k + 1, by omega, by go_num, (K ++ [(s, hh)]), by simp; omega, hMg, hKg'⟩, belg⟩
              case measure => simp [intOf]; omega
            · have hlen : (Builtin.len_ #[39] 3 #[.map (some bk)]).run Tryd.prog wf = .ok (.int .i64 (K.length : Int)) wf := by have := hKf.len und_map2 3; rwa [List.length_map] at this
              have hdr : decide ((K.length : Int) < room) = false := decide_eq_false hroom
              have HG := Lib.hid (show grown K room (s, hh) = K by unfold grown; rw [if_neg HNM.out, if_neg hroom])
              rw [HG.out] at hMf
              go_wp2_with (first
                | ((with_reducible refine at_slot 48 ?_); (refine arm_load (o := ⟨some 48, _, _, _, _, _⟩) rfl _ _ rfl X 0 rfl kc (hXf.range 0 _ (fun j v hj => by rw [Nat.zero_add]; exact hj)) (by rw [HKL.out]; exact sz_ask) ?_))
                | ((with_reducible refine at_slot 49 ?_); (refine arm_lookup (o := ⟨some 49, _, _, _, _, _⟩) rfl _ _ _ rfl rfl (s, hh) HX.out (by rw [HKC.out]; rfl) hKf kind_ask und_map2 (.int .i64 0) (zero_int _) (fun p hp => by obtain ⟨y, hy, rfl⟩ := List.mem_map.1 hp; exact HKO.out y hy) (.int .i64 0) (by rw [look_not (fun _ => (.int .i64 1 : Value)) (s, hh) K HNM.out]; rfl) false (by rw [look_not (fun _ => (.int .i64 1 : Value)) (s, hh) K HNM.out]; rfl) ?_)))
              refine (known_any M bm room K wf hMf).mono ?_
              rintro e wh ⟨rfl, rfl⟩
              go_wp2_with (first
                | ((with_reducible refine at_slot 65 ?_); (refine arm_len (o := ⟨some 65, _, _, _, _, _⟩) rfl _ _ rfl rfl hKf und_map2 ?_); rw [List.length_map]))
              go_roundw
              case rel => exact ⟨⟨k + 1, by omega, by go_num, K, by omega, hMf, hKf⟩, belf⟩
              case measure => simp [intOf]; omega
        · refine (o_value _ rfl 43 rfl (by kernel_rfl) (run_op_one _ rfl (some ⟨X, 1, none⟩) 32 32 rfl _) ?_)
          have hN1 := new_alloc wz (.cells #[.slice (some ⟨X, 1, none⟩) 32 32] 25)
          have hR1 : Row (wz.alloc (.cells #[.slice (some ⟨X, 1, none⟩) 32 32] 25)) wz.heap.size 25 [.slice (some ⟨X, 1, none⟩) 32 32] := heap_alloc_new _ _
          generalize wz.alloc (.cells #[.slice (some ⟨X, 1, none⟩) 32 32] 25) = y1 at hN1 hR1 ⊢
          have hX1 := hXz.old hN1.below
          have hK1 := hKz.old hN1.below
          have hMe1 := hMz.old hN1.below
          have bl1 : Below w.heap.size w y1 := below_step belz belz.size hN1.below
          have nP : wz.heap.size ≠ bm := Ne.symm (Nat.ne_of_lt hMz.map_.lt)
          refine ⟨hX1, ?_⟩
          simp only [Act.put, List.setIfInBounds_toArray, List.set_cons_zero, List.set_cons_succ]
          refine h_one (i := 5) (by kernel_rfl) (o_call rfl 38 rfl (by kernel_rfl) (run_op_call 14 _ _ rfl #[.pointer (some ⟨M, 0, none⟩), .string s, .agg (u8s hh).toArray] (by simp only [List.map_toArray, List.map_cons, List.map_nil]; rfl) Tryd.func14 (by kernel_rfl) (by kernel_rfl) y1) (memoOf_any (s, hh) HX.out HXL.out M bm room K y1 hMe1 (HKW.out y1 bl1) HN.out.2.2) ?_)
          rw [HDV.out]
          rintro e y2 ⟨rfl, hMe2, hO2⟩
          have hX2 := hX1.only hO2 HXn.out.1
          have hK2 := hK1.only hO2 (Ne.symm HN.out.1.2)
          have hR2 := hR1.only hO2 nP
          have bl2 : Below w.heap.size w y2 := below_only bl1 hO2 lbm bl1.size
          refine ⟨_, rfl, hX2, ?_⟩
          simp only [Act.put, List.setIfInBounds_toArray, List.set_cons_zero, List.set_cons_succ]
          have hpt : Parts y2 (some ⟨wz.heap.size, 0, none⟩) [hh] := parts_one (p := some ⟨X, 1, none⟩) (c := 32) (by rw [HH.out]; exact hR2) (came_at (key_hash (hX2.congr HKC.out)) HH.out HXL.out)
          refine h_one (i := 11) (by kernel_rfl) (o_call rfl 44 rfl (by kernel_rfl) (run_op_call 11 _ _ rfl #[.string s, .slice (some ⟨wz.heap.size, 0, none⟩) 1 1] (by simp only [List.map_toArray, List.map_cons, List.map_nil]; rfl) Tryd.func11 (by kernel_rfl) (by kernel_rfl) y2) (tagOf_any s [hh] (some ⟨wz.heap.size, 0, none⟩) 1 y2 (by simp [total, HH.out]) hpt (HKW.out y2 bl2)) ?_)
          rw [HTD.out]
          rintro e wf ⟨rfl, hBf⟩
          have hXf := hX2.old hBf
          have hKf := hK2.old hBf
          have hMf := hMe2.old hBf
          have belf : Below w.heap.size w wf := below_step bl2 bl2.size hBf
          refine ⟨_, rfl, hXf, ?_⟩
          simp only [Act.put, List.setIfInBounds_toArray, List.set_cons_zero, List.set_cons_succ]
          clear hpt hBf bl2 hMe2 hK2 hX2 hR2 hO2 bl1 hK1 hX1 hMe1 hN1 hR1 nP
          refine h_take 12 (.bool false) rfl 45 rfl (by kernel_rfl) (by kernel_rfl) (by kernel_rfl) (by kernel_rfl) (fun _ _ _ h => h) (fun w' _ => run_op_neq _ _ _ rfl dg HDL.out rfl rfl w') hXf ?_
          simp only [Act.put, List.setIfInBounds_toArray, List.set_cons_zero, List.set_cons_succ]
          refine wpAnyH_done (by kernel_rfl) ?_ _
          by_cases hmem : (s, hh) ∈ K
          · have HME := Lib.hid hmem; clear hmem
            have HG := Lib.hid (show grown K room (s, hh) = K by unfold grown; rw [if_pos HME.out])
            rw [HG.out] at hMf
            go_wp2_with (first
              | ((with_reducible refine at_slot 48 ?_); (refine arm_load (o := ⟨some 48, _, _, _, _, _⟩) rfl _ _ rfl X 0 rfl kc (hXf.range 0 _ (fun j v hj => by rw [Nat.zero_add]; exact hj)) (by rw [HKL.out]; exact sz_ask) ?_))
              | ((with_reducible refine at_slot 49 ?_); (refine arm_lookup (o := ⟨some 49, _, _, _, _, _⟩) rfl _ _ _ rfl rfl (s, hh) HX.out (by rw [HKC.out]; rfl) hKf kind_ask und_map2 (.int .i64 0) (zero_int _) (fun p hp => by obtain ⟨y, hy, rfl⟩ := List.mem_map.1 hp; exact HKO.out y hy) (.int .i64 1) (by rw [look_mem (fun _ => (.int .i64 1 : Value)) (s, hh) K HME.out]; rfl) true (by rw [look_mem (fun _ => (.int .i64 1 : Value)) (s, hh) K HME.out]; rfl) ?_)))
            refine (known_any M bm room K wf hMf).mono ?_
            rintro e wh ⟨rfl, rfl⟩
            go_wp2_with (first
              | ((with_reducible refine at_slot 65 ?_); (refine arm_len (o := ⟨some 65, _, _, _, _, _⟩) rfl _ _ rfl rfl hKf und_map2 ?_); rw [List.length_map]))
            go_roundw
            case rel => exact ⟨⟨k + 1, by omega, by go_num, K, by omega, hMf, hKf⟩, belf⟩
            case measure => simp [intOf]; omega
          · have HNM := Lib.hid hmem; clear hmem
            by_cases hroom : (K.length : Int) < room
            · have hlen : (Builtin.len_ #[39] 3 #[.map (some bk)]).run Tryd.prog wf = .ok (.int .i64 (K.length : Int)) wf := by have := hKf.len und_map2 3; rwa [List.length_map] at this
              have hdr : decide ((K.length : Int) < room) = true := decide_eq_true hroom
              have HG := Lib.hid (show grown K room (s, hh) = K ++ [(s, hh)] by unfold grown; rw [if_neg HNM.out, if_pos hroom])
              rw [HG.out] at hMf
              go_wp2_with (first
                | ((with_reducible refine at_slot 48 ?_); (refine arm_load (o := ⟨some 48, _, _, _, _, _⟩) rfl _ _ rfl X 0 rfl kc (hXf.range 0 _ (fun j v hj => by rw [Nat.zero_add]; exact hj)) (by rw [HKL.out]; exact sz_ask) ?_))
                | ((with_reducible refine at_slot 49 ?_); (refine arm_lookup (o := ⟨some 49, _, _, _, _, _⟩) rfl _ _ _ rfl rfl (s, hh) HX.out (by rw [HKC.out]; rfl) hKf kind_ask und_map2 (.int .i64 0) (zero_int _) (fun p hp => by obtain ⟨y, hy, rfl⟩ := List.mem_map.1 hp; exact HKO.out y hy) (.int .i64 0) (by rw [look_not (fun _ => (.int .i64 1 : Value)) (s, hh) K HNM.out]; rfl) false (by rw [look_not (fun _ => (.int .i64 1 : Value)) (s, hh) K HNM.out]; rfl) ?_))
                | ((with_reducible refine at_slot 61 ?_); (refine arm_load (o := ⟨some 61, _, _, _, _, _⟩) rfl _ _ rfl X 0 rfl kc (hXf.range 0 _ (fun j v hj => by rw [Nat.zero_add]; exact hj)) (by rw [HKL.out]; exact sz_ask) ?_))
                | ((refine arm_update (o := ⟨none, _, _, _, _, _⟩) rfl _ _ _ _ rfl rfl (s, hh) HX.out (by rw [HKC.out]; rfl) (.int .i64 1) rfl hKf kind_ask und_map2 (fun p hp => by obtain ⟨y, hy, rfl⟩ := List.mem_map.1 hp; exact HKO.out y hy) (look_not _ _ K HNM.out) ?_); intro wg hKg hOg hSg))
              have hMg := hMf.only hOg HN.out.1.1 HN.out.1.2
              have belg : Below w.heap.size w wg := below_only belf hOg lbk belf.size
              have hKg' : MapAt wg bk keyV ((K ++ [(s, hh)]).map fun x => (x, (.int .i64 1 : Value))) := by rw [List.map_append]; exact hKg
              clear hMf hKf hXf belf hOg hSg hKg
              refine (known_any M bm room (K ++ [(s, hh)]) wg hMg).mono ?_
              rintro e wh ⟨rfl, rfl⟩
              go_wp2_with (first
                | ((with_reducible refine at_slot 65 ?_); (refine arm_len (o := ⟨some 65, _, _, _, _, _⟩) rfl _ _ rfl rfl hKg' und_map2 ?_); rw [List.length_map]))
              go_roundw
              case rel => exact ⟨⟨k + 1, by omega, by go_num, (K ++ [(s, hh)]), by simp; omega, hMg, hKg'⟩, belg⟩
              case measure => simp [intOf]; omega
            · have hlen : (Builtin.len_ #[39] 3 #[.map (some bk)]).run Tryd.prog wf = .ok (.int .i64 (K.length : Int)) wf := by have := hKf.len und_map2 3; rwa [List.length_map] at this
              have hdr : decide ((K.length : Int) < room) = false := decide_eq_false hroom
              have HG := Lib.hid (show grown K room (s, hh) = K by unfold grown; rw [if_neg HNM.out, if_neg hroom])
              rw [HG.out] at hMf
              go_wp2_with (first
                | ((with_reducible refine at_slot 48 ?_); (refine arm_load (o := ⟨some 48, _, _, _, _, _⟩) rfl _ _ rfl X 0 rfl kc (hXf.range 0 _ (fun j v hj => by rw [Nat.zero_add]; exact hj)) (by rw [HKL.out]; exact sz_ask) ?_))
                | ((with_reducible refine at_slot 49 ?_); (refine arm_lookup (o := ⟨some 49, _, _, _, _, _⟩) rfl _ _ _ rfl rfl (s, hh) HX.out (by rw [HKC.out]; rfl) hKf kind_ask und_map2 (.int .i64 0) (zero_int _) (fun p hp => by obtain ⟨y, hy, rfl⟩ := List.mem_map.1 hp; exact HKO.out y hy) (.int .i64 0) (by rw [look_not (fun _ => (.int .i64 1 : Value)) (s, hh) K HNM.out]; rfl) false (by rw [look_not (fun _ => (.int .i64 1 : Value)) (s, hh) K HNM.out]; rfl) ?_)))
              refine (known_any M bm room K wf hMf).mono ?_
              rintro e wh ⟨rfl, rfl⟩
              go_wp2_with (first
                | ((with_reducible refine at_slot 65 ?_); (refine arm_len (o := ⟨some 65, _, _, _, _, _⟩) rfl _ _ rfl rfl hKf und_map2 ?_); rw [List.length_map]))
              go_roundw
              case rel => exact ⟨⟨k + 1, by omega, by go_num, K, by omega, hMf, hKf⟩, belf⟩
              case measure => simp [intOf]; omega
      · have hd3 : decide ((255 : Int) < (s.size : Int)) = true := decide_eq_true (by omega)
        go_wp2_with (first
          | ((with_reducible refine at_slot 27 ?_); (refine arm_indexN (o := ⟨some 27, _, _, _, _, _⟩) rfl _ _ _ rfl 41 33 (by kernel_rfl) (by kernel_rfl) g o _ _ rfl .i64 k rfl hlt ?_))
          | ((with_reducible refine at_slot 28 ?_); (refine arm_load (o := ⟨some 28, _, _, _, _, _⟩) rfl _ _ rfl g (o + k * 33) rfl kc hrg' (by rw [HKL.out]; exact sz_ask) ?_))
          | ((with_reducible refine at_slot 8 ?_); (refine arm_alloc (o := ⟨some 8, _, _, _, _, _⟩) rfl _ rfl _ z_ask ?_); intro X w4 hXe hR4 hN4)
          | ((with_reducible refine arm_store (o := ⟨none, _, _, _, _, _⟩) rfl _ _ _ rfl X 0 rfl kc rfl _ _ hR4 (by rw [HKL.out, List.length_cons, u8s_length, List.length_replicate]; omega) HK1.out (by rw [HKL.out]; exact sz_ask) ?_); intro w5 hR5 hO5 hS5; have cX0 : w5.cell? ⟨X, 0, none⟩ = some (.string s) := (hR5.congr (lay_all _ _ (by rw [HKL.out, List.length_cons, u8s_length, List.length_replicate]))).cell (by rw [HKC.out]; rfl)))
        have eX := hXe.out
        have bel45 : Below wr.heap.size wr w5 := below_only hN4.below hO5 (by omega) hN4.below.size
        go_ret
        exact ⟨rfl, below_step hbel hbel.size bel45⟩
    · obtain rfl : k = l.length := by omega
      go_wp2_with fail
      go_ret
      exact ⟨rfl, hbel⟩
end Go.Proofs.YtebfdbibeecncaaDoor.Tg
