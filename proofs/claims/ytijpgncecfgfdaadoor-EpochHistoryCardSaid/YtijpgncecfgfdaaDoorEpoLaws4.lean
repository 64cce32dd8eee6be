/-
  EpochHistory, as a contract (promise P8.3): for any ledger and any steps the law returns true. Over this seat's translation.
-/
import Derived.Test.YtijpgncecfgfdaaDoorEpoNext
import Derived.Test.YtijpgncecfgfdaaDoorEpoSteps
namespace Go.Proofs.YtijpgncecfgfdaaDoor.Ep
open Go.ChangeShapes Go.WideShapes Go.ChangeAt Go.RowKit Go.Proofs.YtijpgncecfgfdaaDoor.Mem Go.Proofs.YtijpgncecfgfdaaDoor.Bt Go.Proofs.YtijpgncecfgfdaaDoor.Sha Go.Proofs.YtijpgncecfgfdaaDoor.Tg
set_option linter.unusedVariables false
set_option linter.unusedSimpArgs false

theorem run_op_field (t : TypeId) (x : Operand) (n : Nat) {o : Oper} {a : Act} (ho : o.op = .field t x n) (fs : Array Field) (f : Field) (hu : Tryd.prog.underlying t = some (.struct fs)) (hf : fs[n]? = some f) (xs : List Value) (hx : a.eval x = .agg xs.toArray) (d : Nat) (vs : List Value)
    (hc : chunk xs f.offset (Tryd.prog.cellsOf f.type) = vs) (hfit : Fit Tryd.prog d f.type vs) (hrow : ofCells Tryd.prog f.type vs = .agg vs.toArray) (w : World) : (execOp a.eval o).run Tryd.prog w = .ok (.value (.agg vs.toArray)) w := by
  have hp := run_part_fit (P := Tryd.prog) w (e := f.type) (xs := xs) (off := f.offset) (d := d) (by rw [hc]; exact hfit)
  rw [hc, hrow] at hp
  unfold execOp
  simp only [ho, hx, Instr.field, Sem.run_bind, run_underlying hu, Result.andThen_ok, hf, asAgg, Sem.run_pure, hp]
theorem rpair_now : ∃ f : Field, (Tryd.prog.fieldsOf 37)[0]? = some f ∧ f.type = 35 ∧ f.offset = 0 := ⟨(Tryd.prog.fieldsOf 37)[0]!, by kernel_rfl, by kernel_rfl, by kernel_rfl⟩
set_option maxRecDepth 100000 in
theorem run_op_now {o : Oper} {a : Act} (x : Operand) (ho : o.op = .field 37 x 0) {c d : Dat} (k : c.Ok) (j : d.Ok) (hx : a.eval x = .agg (pcs c d).toArray) (w : World) : (execOp a.eval o).run Tryd.prog w = .ok (.value (.agg (dcs c).toArray)) w := by
  obtain ⟨f, hf, ht, ho2⟩ := rpair_now
  have c1 : Tryd.prog.cellsOf 35 = 129 := by kernel_rfl
  refine run_op_field 37 x 0 ho (Tryd.prog.fieldsOf 37) f (by kernel_rfl) hf (pcs c d) hx 3 (dcs c) ?_ ?_ ?_ w
  · rw [ht, ho2, c1]; exact (p_now (Has.refl (pcs c d))).chunk (dcs_len k)
  · rw [ht]; exact fit_rdat 0 k
  · rw [ht]; exact row_cells (k := .struct (Tryd.prog.fieldsOf 35)) (by kernel_rfl) rfl _
/-- What holds behind some of the steps. -/
structure HsRel (w : World) (x : List Nat) (n base V W G : Nat) (i lv av : Value) (wr : World) : Prop where
  ex : ∃ (k : Nat) (es : List Blk) (c d : Dat) (p : Option Addr) (cap : Nat), k ≤ n ∧ i = .int .i64 k ∧ lv = .slice p es.length cap ∧ av = .int .u32 (lastS es : Nat) ∧ OwnE wr base p cap es ∧ Row wr V 28 (pcs c d) ∧ Row wr W 35 (dcs c) ∧ Row wr G 23 (u8s x) ∧
    es.length ≤ k ∧ d = nextH x es ∧ c.Ok ∧ d.Ok ∧ d.len ≤ es.length + 1 ∧ (∀ b ∈ es, b.fro / 24 ≤ lastS es / 24) ∧ lastS es < 4294967296
  bel : Below w.heap.size w wr
  sz : base ≤ wr.heap.size
set_option maxHeartbeats 20000000 in
set_option maxRecDepth 100000 in
theorem epochHistory_any (x : List Nat) (l : List Blk) (P : Option Addr) (pc : Nat) (w : World) (kx : H32 x) (hs : Steps w P l) (hm : l.length ≤ maxLen) (hk : w.rangeAt 1 0 (u32s ks)) (hk2 : w.rangeAt 0 0 (u32s ks)) :
    Calls Tryd.prog 4 #[.agg (u8s x).toArray, .slice P l.length pc] w fun e w' => e = .returned (.bool true) ∧ Below w.heap.size w w' := by
  have hk1 : 1 < w.heap.size := range_lt hk (by simp [u32s, ks])
  have hk3 : 0 < w.heap.size := range_lt hk2 (by simp [u32s, ks])
  have HKW : Hid (∀ w', Below w.heap.size w w' → w'.rangeAt 1 0 (u32s ks)) := Lib.hid fun w' hb => range_block hk (hb.block _ hk1)
  have HKR : Hid (∀ w', Below w.heap.size w w' → w'.rangeAt 0 0 (u32s ks)) := Lib.hid fun w' hb => range_block hk2 (hb.block _ hk3)
  clear hk hk2
  have KX := Lib.hid kx; have HS := Lib.hid hs
  obtain ⟨g, hg⟩ : ∃ g : Dat, g = ⟨x, zh, zh, zh, 1⟩ := ⟨_, rfl⟩
  have KG := Lib.hid (show g.Ok by rw [hg]; exact ⟨kx, zh_ok, zh_ok, zh_ok, (by decide : 1 < 4294967296)⟩)
  have C1 := Lib.hid (fun w0 => first_any x w0 kx)
  have C2 := Lib.hid (fun w0 => rfirst_any x w0 kx)
  have HG0 := Lib.hid (show g = nextH x [] by rw [hg]; rfl)
  have HGL := Lib.hid (show g.len ≤ 1 by rw [hg]; exact Nat.le_refl _)
  rw [← hg] at C1 C2
  clear hg kx hs
  by_cases hbig : 100 < l.length
  · have hbd : decide ((100 : Int) < (l.length : Int)) = true := decide_eq_true (by omega)
    have hbd2 : decide (100 < l.length) = true := decide_eq_true hbig
    go_enter Tryd.func4, Tryd.ntmps4
    go_wp2_with (first
      | ((with_reducible refine at_slot 2 ?_); (refine arm_box (o := ⟨some 2, _, _, _, _, _⟩) rfl _ _ rfl (u8s x) rfl ?_); intro G w1 Ge hw1 nw1))
    have bel1 : Below w.heap.size w w1 := nw1.below
    refine (awake_any _ (HKW.out _ bel1) (HKR.out _ bel1)).mono ?_
    rintro e w2 ⟨rfl, hB⟩
    have bel2 : Below w.heap.size w w2 := below_step bel1 bel1.size hB
    go_wp2_with fail
    go_ret
    exact ⟨rfl, bel2⟩
  · have hbd : decide ((100 : Int) < (l.length : Int)) = false := decide_eq_false (by omega)
    have hbd2 : decide (100 < l.length) = false := decide_eq_false hbig
    go_enter Tryd.func4, Tryd.ntmps4
    go_wp2_with (first
      | ((with_reducible refine at_slot 2 ?_); (refine arm_box (o := ⟨some 2, _, _, _, _, _⟩) rfl _ _ rfl (u8s x) rfl ?_); intro G w1 Ge hw1 nw1))
    have bel1 : Below w.heap.size w w1 := nw1.below
    refine (awake_any _ (HKW.out _ bel1) (HKR.out _ bel1)).mono ?_
    rintro e w2 ⟨rfl, hB⟩
    have bel2 : Below w.heap.size w w2 := below_step bel1 bel1.size hB
    have rG2 := hw1.old hB
    have lG : w.heap.size ≤ G := by have := Ge.out; omega
    clear hB hw1 nw1 Ge bel1
    go_wp2_with (first
      | ((with_reducible refine at_slot 20 ?_); (refine arm_load (o := ⟨some 20, _, _, _, _, _⟩) rfl _ _ rfl G 0 rfl (u8s x) ((Has.refl _).range rG2) (szH KX.out) ?_)))
    refine (C1.out _).mono ?_
    rintro e w3 ⟨rfl, hB⟩
    have rG3 := rG2.old hB
    have bel3 : Below w.heap.size w w3 := below_step bel2 bel2.size hB
    clear hB rG2 bel2
    go_wp2_with (first
      | ((with_reducible refine at_slot 5 ?_); (refine arm_alloc (o := ⟨some 5, _, _, _, _, _⟩) rfl _ rfl (pcs zd zd) z_pair ?_); intro V w4 Ve hw4 nw4)
      | ((with_reducible refine arm_store (o := ⟨none, _, _, _, _, _⟩) rfl _ _ _ rfl V 0 rfl (pcs g g) rfl _ _ (hw4) (fitP KG.out KG.out) (pcs_one _ _) (sz_pair KG.out KG.out) ?_); intro w5 hw5 ow5 sw5)
      | ((with_reducible refine at_slot 22 ?_); (refine arm_load (o := ⟨some 22, _, _, _, _, _⟩) rfl _ _ rfl G 0 rfl (u8s x) ((Has.refl _).range ((rG3.old nw4.below).only ow5 (by have := rG3.lt; have := Ve.out; omega))) (szH KX.out) ?_)))
    have e1 := Ve.out; have s1 := nw4.size; have s2 := rG3.lt; have s3 := bel3.size
    have hGV : G ≠ V := by omega
    have lV : w.heap.size ≤ V := by omega
    have rG5 := (rG3.old nw4.below).only ow5 hGV
    have rV5 := hw5.congr (allP KG.out KG.out)
    have bel5 : Below w.heap.size w w5 := below_only (below_step bel3 bel3.size nw4.below) ow5 lV (by omega)
    clear e1 s1 s2 s3 Ve hw4 nw4 hw5 ow5 sw5 rG3 bel3
    refine (C2.out _).mono ?_
    rintro e w6 ⟨rfl, hB⟩
    have rG6 := rG5.old hB; have rV6 := rV5.old hB
    have bel6 : Below w.heap.size w w6 := below_step bel5 bel5.size hB
    clear hB rG5 rV5 bel5
    go_wp2_with (first
      | ((with_reducible refine at_slot 24 ?_); (refine arm_want (.agg (dcs g).toArray) 24 rfl (by kernel_rfl) (run_op_now _ rfl KG.out KG.out rfl _) ?_))
      | ((with_reducible refine at_slot 8 ?_); (refine arm_alloc (o := ⟨some 8, _, _, _, _, _⟩) rfl _ rfl (dcs zd) z_rdat ?_); intro W w7 We hw7 nw7)
      | ((with_reducible refine arm_store (o := ⟨none, _, _, _, _, _⟩) rfl _ _ _ rfl W 0 rfl (dcs g) rfl _ _ (hw7) (fitD KG.out) (dcs_one _) (sz_rdat KG.out) ?_); intro w8 hw8 ow8 sw8))
    have e1 := We.out; have s1 := nw7.size; have s2 := rG6.lt; have s3 := bel6.size; have s4 := rV6.lt; have s5 := sw8.out
    have hGW : G ≠ W := by omega
    have hVW : V ≠ W := by omega
    have lW : w.heap.size ≤ W := by omega
    have rG8 := (rG6.old nw7.below).only ow8 hGW
    have rV8 := (rV6.old nw7.below).only ow8 hVW
    have rW8 := hw8.congr (allD KG.out)
    have bel8 : Below w.heap.size w w8 := below_only (below_step bel6 bel6.size nw7.below) ow8 lW (by omega)
    obtain ⟨base, hbase⟩ : ∃ base, base = w8.heap.size := ⟨_, rfl⟩
    have bV : V < base := by omega
    have bW : W < base := by omega
    have bG : G < base := by omega
    have lb : w.heap.size ≤ base := by omega
    have h0 : HsRel w x l.length base V W G (.int .i64 0) (.slice none 0 0) (.int .u32 0) w8 := ⟨⟨0, [], g, g, none, 0, by omega, rfl, rfl, rfl, OwnE.nil _ _, rV8, rW8, rG8, by simp, HG0.out, KG.out, KG.out, HGL.out, (fun b hb => by cases hb), (by decide : lastS [] < 4294967296)⟩, bel8, by omega⟩
    clear hbase e1 s1 s2 s3 s4 s5 We hw7 nw7 hw8 ow8 sw8 rG6 rV6 bel6 rG8 rV8 rW8 bel8 C1 C2 HG0 HGL
    go_loopw [27, 6, 7] (fun i lv av wr => HsRel w x l.length base V W G i lv av wr) (fun i _ _ _ => l.length - (intOf i).toNat)
    case atStart => exact h0
    case round =>
      clear h0
      obtain ⟨⟨k, es, c, d, p, cap, hk, rfl, rfl, rfl, hO, rV, rW, rG, hel, hd, kc, kd, hdl, hsort, hlast⟩, bel, hsz⟩ := hrel
      have KC := Lib.hid kc; have KD := Lib.hid kd; have HD := Lib.hid hd; have HSO := Lib.hid hsort
      clear kc kd hd hsort
      by_cases hlt : k < l.length
      · obtain ⟨st, hst⟩ : ∃ st, l[k]? = some st := ⟨_, List.getElem?_eq_getElem hlt⟩
        obtain ⟨gg, go, hP, hgl, hrs⟩ := HS.out.at_ k st hst
        have KT := Lib.hid (HS.out.ok.get hst)
        subst hP
        have RS := Lib.hid hrs
        clear hst hrs
        have ik : (k : Int) < (l.length : Int) := by omega
        obtain ⟨a, ha⟩ : ∃ a, a = lastS es := ⟨_, rfl⟩
        rw [← ha] at hlast
        have HA := Lib.hid ha
        rw [← ha]
        clear ha
        go_wp2_with (first
          | ((with_reducible refine at_slot 29 ?_); (refine arm_indexN (o := ⟨some 29, _, _, _, _, _⟩) rfl _ _ _ rfl 48 97 und_steps (by kernel_rfl) gg go (l.length) pc rfl .i64 k rfl hlt ?_))
          | ((with_reducible refine at_slot 30 ?_); (refine arm_load (o := ⟨some 30, _, _, _, _, _⟩) rfl _ _ rfl gg (go + k * 97) rfl (scs st) (range_block RS.out (bel.block gg hgl)) (sz_step KT.out) ?_))
          | ((with_reducible refine at_slot 10 ?_); (refine arm_alloc (o := ⟨some 10, _, _, _, _, _⟩) rfl _ rfl (scs zb) z_step ?_); intro X v1 Xe hv1 nv1)
          | ((with_reducible refine arm_store (o := ⟨none, _, _, _, _, _⟩) rfl _ _ _ rfl X 0 rfl (scs st) rfl _ _ (hv1) (fitS KT.out) (scs_one _) (sz_step KT.out) ?_); intro v2 hv2 ov2 sv2)
          | ((with_reducible refine at_slot 34 ?_); (refine arm_want (.int .u32 (st.to : Int)) 34 rfl (by kernel_rfl) (run_op_load1 _ _ rfl (.int .u32) (by kernel_rfl) rfl ⟨X, 0, none⟩ rfl (.int .u32 (st.to : Int)) ((hv2.congr (allS KT.out)).cell (show Has _ 0 _ from t_by (Has.refl (scs st))).get)) ?_)))
        have e1 := Xe.out; have s1 := nv1.size
        have rX0 := hv2.congr (allS KT.out); have Xl := Lib.hid (show base ≤ X by omega)
        have BX : Below wr.heap.size wr v2 := below_only nv1.below ov2 (by omega) (by omega)
        have rV0 := rV.old BX; have rW0 := rW.old BX; have rG0 := rG.old BX; have O0 := hO.below BX
        have bel0 : Below w.heap.size w v2 := below_step bel bel.size BX
        have z0 : base ≤ v2.heap.size := Nat.le_trans hsz BX.size
        clear e1 s1 Xe hv1 nv1 hv2 ov2 sv2 rV rW rG hO bel hsz BX RS
        by_cases hov : a + st.to < 4294967296
        · obtain ⟨s', hs'⟩ : ∃ s', s' = a + st.to := ⟨_, rfl⟩
          have hsb : s' < 4294967296 := by omega
          refine (Slot.later_fits a st.to s' _ hs' hsb).mono ?_
          rintro e1 z1 ⟨rfl, rfl⟩
          by_cases hz : st.to = 0
          · have HZ := Lib.hid (show ((st.to : Int) == 0) = true by rw [hz]; rfl)
            clear hz hs'
            go_wp2_with (first
              | ((with_reducible refine at_slot 42 ?_); (refine arm_want (.int .u32 (st.to : Int)) 42 rfl (by kernel_rfl) (run_op_load1 _ _ rfl (.int .u32) (by kernel_rfl) rfl ⟨X, 0, none⟩ rfl (.int .u32 (st.to : Int)) ((rX0).cell (show Has _ 0 _ from t_by (Has.refl (scs st))).get)) ?_))
              | ((with_reducible refine at_slot 43 ?_); (refine arm_want (.bool true) 43 rfl (by kernel_rfl) (run_op_eqlB _ _ .u32 (by kernel_rfl) _ _ rfl .u32 ((st.to : Int)) (0) rfl rfl true HZ.out _) ?_)))
            go_roundw
            case rel => exact ⟨⟨k + 1, es, c, d, p, cap, by omega, by go_num, rfl, by rw [HA.out], O0, rV0, rW0, rG0, by omega, HD.out, KC.out, KD.out, hdl, HSO.out, by rw [← HA.out]; exact hlast⟩, bel0, z0⟩
            case measure => simp [intOf]; omega
          · have HZ := Lib.hid (show ((st.to : Int) == 0) = false from beq_eq_false_iff_ne.2 (by omega))
            have hlta : a < s' := by omega
            have j2 : Hid (Blk.mk a s' st.prev st.led st.draw).Ok := Lib.hid ⟨hlast, hsb, KT.out.prev, KT.out.led, KT.out.draw⟩
            obtain ⟨b2, hb2⟩ : ∃ b2 : Blk, b2 = ⟨a, s', st.prev, st.led, st.draw⟩ := ⟨_, rfl⟩
            obtain ⟨y, hy⟩ : ∃ y : Blk, y = ⟨s', st.to, st.prev, st.led, st.draw⟩ := ⟨_, rfl⟩
            have JB := Lib.hid (show b2.Ok by rw [hb2]; exact j2.out)
            have KY := Lib.hid (show y.Ok by rw [hy]; exact ⟨hsb, KT.out.to, KT.out.prev, KT.out.led, KT.out.draw⟩)
            have BB := Lib.hid (show Tryd.prog.built 30 [(0, .int .u32 (a : Int)), (1, .int .u32 (s' : Int)), (2, .agg (u8s st.prev).toArray), (3, .agg (u8s st.led).toArray), (4, .agg (u8s st.draw).toArray)] = some (bcs b2).toArray by have h := built_blk JB.out; subst hb2; exact h)
            have BY := Lib.hid (show Tryd.prog.built 54 [(0, .int .u32 (s' : Int)), (1, .agg (scs st).toArray)] = some (bcs y).toArray by have h := built_ent KY.out; subst hy; exact h)
            have hno : ¬ overs d b2 := fun h => by have := h.2; omega
            have HNO := Lib.hid hno
            have hb2l : b2.fro < b2.to := by rw [hb2]; exact hlta
            have HYF := Lib.hid (show y.fro = s' by rw [hy])
            have NXT := Lib.hid (show nextF d b2 = nextH x (es ++ [y]) by rw [HD.out, next_snoc x es y HSO.out (by rw [← HA.out, HYF.out]; exact hlta), ← HA.out, hb2, hy])
            have KNE := Lib.hid (next_ok KD.out JB.out hno)
            have HNL := Lib.hid (made_len d b2)
            obtain ⟨ne, hne⟩ : ∃ ne, ne = nextF d b2 := ⟨_, rfl⟩
            obtain ⟨nw, hnw⟩ : ∃ nw, nw = nowF c d b2 := ⟨_, rfl⟩
            have KNW := Lib.hid (show nw.Ok by rw [hnw]; exact now_ok KC.out KD.out)
            rw [← hne] at NXT KNE HNL
            have CF : Hid (∀ w0, w0.rangeAt 1 0 (u32s ks) → Calls Tryd.prog 8 #[.agg (pcs c d).toArray, .agg (bcs b2).toArray] w0 fun e w' => e = .returned (.tuple #[.agg (pcs nw ne).toArray, .int .i64 0]) ∧ Below w0.heap.size w0 w') := Lib.hid fun w0 h => by rw [hne, hnw]; exact follow_ok c d b2 w0 KC.out KD.out JB.out h hb2l HNO.out
            have HNW := Lib.hid hnw; have HB2 := Lib.hid hb2
            have HLS := Lib.hid (show lastS (es ++ [y]) = s' by rw [lastS_snoc, HYF.out])
            have HSO2 := Lib.hid (show ∀ b ∈ es ++ [y], b.fro / 24 ≤ lastS (es ++ [y]) / 24 by intro b hb; rw [HLS.out]; rcases List.mem_append.1 hb with hb | hb; (have := HSO.out b hb; rw [← HA.out] at this; omega); (rw [List.mem_singleton.1 hb, HYF.out]; exact Nat.le_refl _))
            have HLE := Lib.hid (show es.length ≤ 1000 by omega)
            obtain ⟨E, hE⟩ : ∃ E, E = s' / 24 := ⟨_, rfl⟩
            obtain ⟨T, hT⟩ : ∃ T, T = a / 24 := ⟨_, rfl⟩
            have CE : Hid (∀ w0, Calls Tryd.prog 14 #[.int .u32 (s' : Int)] w0 fun e w' => e = .returned (.int .u32 (E : Int)) ∧ w0 = w') := Lib.hid fun w0 => by rw [hE]; exact Slot.repoch_nat s' w0 hsb
            have CT : Hid (∀ w0, Calls Tryd.prog 14 #[.int .u32 (a : Int)] w0 fun e w' => e = .returned (.int .u32 (T : Int)) ∧ w0 = w') := Lib.hid fun w0 => by rw [hT]; exact Slot.repoch_nat a w0 hlast
            have HTE := Lib.hid (show (T < E → nw = d) ∧ (¬ T < E → nw = c) by rw [hT, hE, hnw]; unfold nowF; rw [hb2]; exact ⟨fun h => if_pos h, fun h => if_neg h⟩)
            have hEb : E < 4294967296 := by omega
            have hTb : T < 4294967296 := by omega
            clear hs' hz hb2 hy hno hb2l hne hnw hE hT j2
            go_wp2_with (first
              | ((with_reducible refine at_slot 42 ?_); (refine arm_want (.int .u32 (st.to : Int)) 42 rfl (by kernel_rfl) (run_op_load1 _ _ rfl (.int .u32) (by kernel_rfl) rfl ⟨X, 0, none⟩ rfl (.int .u32 (st.to : Int)) ((rX0).cell (show Has _ 0 _ from t_by (Has.refl (scs st))).get)) ?_))
              | ((with_reducible refine at_slot 43 ?_); (refine arm_want (.bool false) 43 rfl (by kernel_rfl) (run_op_eqlB _ _ .u32 (by kernel_rfl) _ _ rfl .u32 ((st.to : Int)) (0) rfl rfl false HZ.out _) ?_)))
            refine (CE.out _).mono ?_
            rintro e2 z2 ⟨rfl, rfl⟩
            go_wp2_with fail
            refine (CT.out _).mono ?_
            rintro e3 z3 ⟨rfl, rfl⟩
            by_cases htu : T < E
            · have HG := Lib.hid (show decide ((T : Int) < (E : Int)) = true from decide_eq_true (by omega))
              have HND := Lib.hid (HTE.out.1 htu)
              clear HTE htu
              have GW := Lib.hid (show 0 + (dcs d).length ≤ (dcs c).length by rw [dcs_len KD.out, dcs_len KC.out]; omega)
              have LW := Lib.hid (show lay (dcs c) 0 (dcs d) = dcs d from lay_all _ _ (by rw [dcs_len KD.out, dcs_len KC.out]))
              go_wp2_with (first
                | ((with_reducible refine at_slot 49 ?_); (refine arm_want (.bool true) 49 rfl (by kernel_rfl) (run_op_gtrB _ _ _ _ rfl .u32 (E : Int) (T : Int) rfl rfl true HG.out _) ?_))
                | ((with_reducible refine at_slot 51 ?_); (refine arm_load (o := ⟨some 51, _, _, _, _, _⟩) rfl _ _ rfl V 129 rfl (dcs d) ((show Has (pcs c d) 129 (dcs d) from p_next KC.out (Has.refl _)).range rV0) (sz_dat KD.out) ?_))
                | ((with_reducible refine arm_store (o := ⟨none, _, _, _, _, _⟩) rfl _ _ _ rfl W 0 rfl (dcs d) rfl _ _ (rW0) GW.out (dcs_one _) (sz_rdat KD.out) ?_); intro r1 hr1 or1 sr1))
              have rW1 := hr1.congr LW.out; have rV1 := rV0.only or1 hVW; have rG1 := rG0.only or1 hGW; have O1 := O0.only or1 bW
              have hXW : X ≠ W := by have := Xl.out; omega
              have rX1 := rX0.only or1 hXW
              have bel1 : Below w.heap.size w r1 := below_only bel0 or1 lW bel0.size
              have z1 : base ≤ r1.heap.size := Nat.le_trans z0 (Nat.le_of_eq sr1.out.symm)
              clear hr1 or1 sr1 rW0 rV0 rG0 O0 rX0 bel0 z0 GW LW
              by_cases hes : es.length = 0
              · have HL := Lib.hid (show decide ((0 : Int) < (es.length : Int)) = false by exact decide_eq_false (by omega))
                clear hes
                refine wp_region_quiet (C := fun w' => Below r1.heap.size r1 w') (by kernel_rfl) (by kernel_rfl) ((Below.refl _ _).drew) ?_
                rw [List.toList_toArray]
                refine q_value 52 rfl (.slice p es.length cap) (by kernel_rfl) (fun w' _ => by kernel_rfl) ?_
                simp only [Act.put, List.setIfInBounds_toArray, List.set_cons_zero, List.set_cons_succ]
                refine q_value 53 rfl (.int .i64 (es.length : Int)) (by kernel_rfl) (fun w' _ => by kernel_rfl) ?_
                simp only [Act.put, List.setIfInBounds_toArray, List.set_cons_zero, List.set_cons_succ]
                refine q_value 54 rfl (.bool false) (by kernel_rfl) (fun w' _ => run_op_gtrB _ _ _ _ rfl .i64 (es.length : Int) 0 rfl rfl false HL.out w') ?_
                simp only [Act.put, List.setIfInBounds_toArray, List.set_cons_zero, List.set_cons_succ]
                refine q_value 55 rfl (.bool false) (by kernel_rfl) (fun w' _ => by kernel_rfl) ?_
                simp only [Act.put, List.setIfInBounds_toArray, List.set_cons_zero, List.set_cons_succ]
                refine BigFrame.wpQuiet_skip (by kernel_rfl) ?_
                simp only [Act.put, List.setIfInBounds_toArray, List.set_cons_zero, List.set_cons_succ]
                refine BigFrame.wpQuiet_skip (by kernel_rfl) ?_
                simp only [Act.put, List.setIfInBounds_toArray, List.set_cons_zero, List.set_cons_succ]
                refine BigFrame.wpQuiet_skip (by kernel_rfl) ?_
                simp only [Act.put, List.setIfInBounds_toArray, List.set_cons_zero, List.set_cons_succ]
                refine BigFrame.wpQuiet_skip (by kernel_rfl) ?_
                simp only [Act.put, List.setIfInBounds_toArray, List.set_cons_zero, List.set_cons_succ]
                refine BigFrame.wpQuiet_skip (by kernel_rfl) ?_
                simp only [Act.put, List.setIfInBounds_toArray, List.set_cons_zero, List.set_cons_succ]
                refine q_value 61 rfl (.bool false) (by kernel_rfl) (fun w' _ => by kernel_rfl) ?_
                simp only [Act.put, List.setIfInBounds_toArray, List.set_cons_zero, List.set_cons_succ]
                refine wpQuiet_nil ?_
                intro r2 hC
                have rX5 := rX1.old hC; have rV5 := rV1.old hC; have rW5 := (rW1.old hC).congr (show dcs d = dcs nw by rw [HND.out]); have rG5 := rG1.old hC; have O5 := O1.below hC
                have bel5 : Below w.heap.size w r2 := below_step bel1 bel1.size hC
                have z5 : base ≤ r2.heap.size := Nat.le_trans z1 hC.size
                clear hC rX1 rV1 rW1 rG1 O1 bel1 z1
                go_wp2_with (first
                  | ((with_reducible refine at_slot 63 ?_); (refine arm_load (o := ⟨some 63, _, _, _, _, _⟩) rfl _ _ rfl V 0 rfl (pcs c d) ((Has.refl _).range rV5) (sz_pair KC.out KD.out) ?_))
                  | ((with_reducible refine at_slot 67 ?_); (refine arm_load (o := ⟨some 67, _, _, _, _, _⟩) rfl _ _ rfl X 1 rfl (u8s st.prev) ((show Has (scs st) 1 (u8s st.prev) from t_prev (Has.refl _)).range rX5) (szH KT.out.prev) ?_))
                  | ((with_reducible refine at_slot 69 ?_); (refine arm_load (o := ⟨some 69, _, _, _, _, _⟩) rfl _ _ rfl X 33 rfl (u8s st.led) ((show Has (scs st) 33 (u8s st.led) from t_led KT.out (Has.refl _)).range rX5) (szH KT.out.led) ?_))
                  | ((with_reducible refine at_slot 71 ?_); (refine arm_load (o := ⟨some 71, _, _, _, _, _⟩) rfl _ _ rfl X 65 rfl (u8s st.draw) ((show Has (scs st) 65 (u8s st.draw) from t_draw KT.out (Has.refl _)).range rX5) (szH KT.out.draw) ?_))
                  | ((with_reducible refine at_slot 72 ?_); (refine arm_build (o := ⟨some 72, _, _, _, _, _⟩) rfl _ _ rfl (bcs b2) (by simp only [List.map_toArray, List.map_cons, List.map_nil]; exact BB.out) ?_)))
                refine (CF.out _ (HKW.out _ bel5)).mono ?_
                rintro e4 t1 ⟨rfl, hB⟩
                have rX6 := rX5.old hB; have rV6 := rV5.old hB; have rW6 := rW5.old hB; have rG6 := rG5.old hB; have O6 := O5.below hB
                have bel6 : Below w.heap.size w t1 := below_step bel5 bel5.size hB
                have z6 : base ≤ t1.heap.size := Nat.le_trans z5 hB.size
                clear hB rX5 rV5 rW5 rG5 O5 bel5 z5 CF BB
                go_wp2_with (first
                  | ((with_reducible refine at_slot 13 ?_); (refine arm_alloc (o := ⟨some 13, _, _, _, _, _⟩) rfl _ rfl (pcs zd zd) z_pair ?_); intro Q t2 Qe ht2 nt2)
                  | ((with_reducible refine arm_store (o := ⟨none, _, _, _, _, _⟩) rfl _ _ _ rfl Q 0 rfl (pcs nw ne) rfl _ _ (ht2) (fitP KNW.out KNE.out) (pcs_one _ _) (sz_pair KNW.out KNE.out) ?_); intro t3 ht3 ot3 st3)
                  | ((with_reducible refine at_slot 78 ?_); (refine arm_load (o := ⟨some 78, _, _, _, _, _⟩) rfl _ _ rfl X 0 rfl (scs st) ((Has.refl _).range (rX6.old (below_only nt2.below ot3 (by have := Qe.out; omega) (by have := nt2.size; omega)))) (sz_step KT.out) ?_))
                  | ((with_reducible refine at_slot 79 ?_); (refine arm_build (o := ⟨some 79, _, _, _, _, _⟩) rfl _ _ rfl (bcs y) (by simp only [List.map_toArray, List.map_cons, List.map_nil]; exact BY.out) ?_))
                  | ((with_reducible refine at_slot 80 ?_); (refine arm_oneE (o := ⟨some 80, _, _, _, _, _⟩) rfl _ rfl y KY.out (by simp only [List.map_toArray, List.map_cons, List.map_nil]; rfl) ?_); intro U t4 Ue ht4 nt4)
                  | ((with_reducible refine at_slot 81 ?_); (refine arm_appendE (o := ⟨some 81, _, _, _, _, _⟩) rfl _ _ rfl base p es.length cap es rfl rfl ((O6.below (below_only nt2.below ot3 (by have := Qe.out; omega) (by have := nt2.size; omega))).below nt4.below) U y KY.out rfl ht4 HLE.out (Nat.le_trans z6 (Nat.le_trans (below_only nt2.below ot3 (by have := Qe.out; omega) (by have := nt2.size; omega)).size nt4.below.size)) ?_); intro p2 cap2 t5 O8 hB8 hrow8))
                have BQ : Below t1.heap.size t1 t3 := (below_only nt2.below ot3 (by have := Qe.out; omega) (by have := nt2.size; omega))
                have rV7 := (rV6.old BQ).old nt4.below; have rW7 := (rW6.old BQ).old nt4.below; have rG7 := (rG6.old BQ).old nt4.below
                have rQ7 := (ht3.congr (allP KNW.out KNE.out)).old nt4.below
                have rV8 := hrow8.out _ _ _ (by decide) rV7; have rW8 := hrow8.out _ _ _ (by decide) rW7; have rG8 := hrow8.out _ _ _ (by decide) rG7; have rQ8 := hrow8.out _ _ _ (by decide) rQ7
                have bel7 : Below w.heap.size w t4 := below_step (below_step bel6 bel6.size BQ) (Nat.le_trans bel6.size BQ.size) nt4.below
                have z7 : base ≤ t4.heap.size := Nat.le_trans z6 (Nat.le_trans BQ.size nt4.below.size)
                have bel8 : Below w.heap.size w t5 := bel7.trans (hB8.mono lb)
                have z8 : base ≤ t5.heap.size := Nat.le_trans z7 hB8.size
                have hVQ : V ≠ Q := by have := rV6.lt; have := Qe.out; omega
                clear rV7 rW7 rG7 rQ7 bel7 z7 hB8 hrow8 BQ Ue ht4 nt4 Qe ht2 nt2 ht3 ot3 st3 rX6 rV6 rW6 rG6 O6 bel6 z6 BY
                have hln : (es ++ [y]).length = es.length + 1 := by simp
                have EE := Lib.hid O8.ents
                have CN : Hid (∀ w0, Ents w0 p2 (es ++ [y]) → w0.rangeAt 0 0 (u32s ks) → Calls Tryd.prog 15 #[.agg (u8s x).toArray, .slice p2 (es.length + 1) cap2] w0 fun e w' => e = .returned (.agg (dcs ne).toArray) ∧ Below w0.heap.size w0 w') := Lib.hid fun w0 h1 h2 => by have h := next_any x (es ++ [y]) p2 cap2 w0 KX.out h1 (by rw [hln]; have := HLE.out; omega) h2; rw [hln, ← NXT.out] at h; exact h
                refine wp_region_quiet (C := fun w' => Below t5.heap.size t5 w') (by kernel_rfl) (by kernel_rfl) ((Below.refl _ _).drew) ?_
                rw [List.toList_toArray]
                refine q_value 82 rfl (.int .i64 0) (by kernel_rfl) (fun w' _ => by kernel_rfl) ?_
                simp only [Act.put, List.setIfInBounds_toArray, List.set_cons_zero, List.set_cons_succ]
                refine q_value 83 rfl (.bool false) (by kernel_rfl) (fun w' _ => by kernel_rfl) ?_
                simp only [Act.put, List.setIfInBounds_toArray, List.set_cons_zero, List.set_cons_succ]
                refine q_value 84 rfl (.bool false) (by kernel_rfl) (fun w' _ => by kernel_rfl) ?_
                simp only [Act.put, List.setIfInBounds_toArray, List.set_cons_zero, List.set_cons_succ]
                refine q_value 85 rfl (.pointer (some ⟨Q, 0, none⟩)) (by kernel_rfl) (fun w' _ => by kernel_rfl) ?_
                simp only [Act.put, List.setIfInBounds_toArray, List.set_cons_zero, List.set_cons_succ]
                refine q_value 86 rfl (.agg (dcs nw).toArray) (by kernel_rfl) (fun w' hC => run_op_load _ _ rfl Q 0 rfl (dcs nw) ((p_now (Has.refl (pcs nw ne))).range (rQ8.old hC)) (sz_dat KNW.out)) ?_
                simp only [Act.put, List.setIfInBounds_toArray, List.set_cons_zero, List.set_cons_succ]
                refine q_value 87 rfl (.agg (dcs nw).toArray) (by kernel_rfl) (fun w' hC => run_op_load _ _ rfl W 0 rfl (dcs nw) ((Has.refl _).range (rW8.old hC)) (sz_rdat KNW.out)) ?_
                simp only [Act.put, List.setIfInBounds_toArray, List.set_cons_zero, List.set_cons_succ]
                refine q_value 88 rfl (.bool false) (by kernel_rfl) (fun w' _ => run_op_neqRDat nw KNW.out _ _ _ rfl rfl rfl w') ?_
                simp only [Act.put, List.setIfInBounds_toArray, List.set_cons_zero, List.set_cons_succ]
                refine q_value 89 rfl (.bool false) (by kernel_rfl) (fun w' _ => by kernel_rfl) ?_
                simp only [Act.put, List.setIfInBounds_toArray, List.set_cons_zero, List.set_cons_succ]
                refine q_value 90 rfl (.bool false) (by kernel_rfl) (fun w' _ => by kernel_rfl) ?_
                simp only [Act.put, List.setIfInBounds_toArray, List.set_cons_zero, List.set_cons_succ]
                refine q_value 91 rfl (.pointer (some ⟨Q, 129, none⟩)) (by kernel_rfl) (fun w' _ => by kernel_rfl) ?_
                simp only [Act.put, List.setIfInBounds_toArray, List.set_cons_zero, List.set_cons_succ]
                refine q_value 92 rfl (.agg (dcs ne).toArray) (by kernel_rfl) (fun w' hC => run_op_load _ _ rfl Q 129 rfl (dcs ne) ((show Has (pcs nw ne) 129 (dcs ne) from p_next KNW.out (Has.refl _)).range (rQ8.old hC)) (sz_dat KNE.out)) ?_
                simp only [Act.put, List.setIfInBounds_toArray, List.set_cons_zero, List.set_cons_succ]
                refine q_value 93 rfl (.agg (u8s x).toArray) (by kernel_rfl) (fun w' hC => run_op_load _ _ rfl G 0 rfl (u8s x) ((Has.refl _).range (rG8.old hC)) (szH KX.out)) ?_
                simp only [Act.put, List.setIfInBounds_toArray, List.set_cons_zero, List.set_cons_succ]
                refine q_value 94 rfl (.slice p2 (es.length + 1) cap2) (by kernel_rfl) (fun w' _ => by kernel_rfl) ?_
                simp only [Act.put, List.setIfInBounds_toArray, List.set_cons_zero, List.set_cons_succ]
                refine q_call 95 rfl (.agg (dcs ne).toArray) 15 #[.agg (u8s x).toArray, .slice p2 (es.length + 1) cap2] (by kernel_rfl) (fun w' _ => run_op_call _ _ _ rfl _ (by simp only [List.map_toArray, List.map_cons, List.map_nil]; rfl) Tryd.func15 (by kernel_rfl) (by kernel_rfl) w') (fun w' hC => (CN.out w' (EE.out.below hC) (HKR.out w' (below_step bel8 bel8.size hC))).mono fun e w'' h => ⟨h.1, below_step hC hC.size h.2⟩) ?_
                simp only [Act.put, List.setIfInBounds_toArray, List.set_cons_zero, List.set_cons_succ]
                refine q_value 96 rfl (.bool false) (by kernel_rfl) (fun w' _ => run_op_neqRDat ne KNE.out _ _ _ rfl rfl rfl w') ?_
                simp only [Act.put, List.setIfInBounds_toArray, List.set_cons_zero, List.set_cons_succ]
                refine q_value 97 rfl (.bool false) (by kernel_rfl) (fun w' _ => by kernel_rfl) ?_
                simp only [Act.put, List.setIfInBounds_toArray, List.set_cons_zero, List.set_cons_succ]
                refine wpQuiet_nil ?_
                intro t6 hC
                have rV9 := rV8.old hC; have rW9 := rW8.old hC; have rG9 := rG8.old hC; have rQ9 := rQ8.old hC; have O9 := O8.below hC
                have bel9 : Below w.heap.size w t6 := below_step bel8 bel8.size hC
                have z9 : base ≤ t6.heap.size := Nat.le_trans z8 hC.size
                clear hC rV8 rW8 rG8 rQ8 O8 bel8 z8 EE CN
                have GP := Lib.hid (show 0 + (pcs nw ne).length ≤ (pcs c d).length by rw [pcs_len KNW.out KNE.out, pcs_len KC.out KD.out]; omega)
                have LP := Lib.hid (show lay (pcs c d) 0 (pcs nw ne) = pcs nw ne from lay_all _ _ (by rw [pcs_len KNW.out KNE.out, pcs_len KC.out KD.out]))
                go_wp2_with (first
                  | ((with_reducible refine at_slot 98 ?_); (refine arm_load (o := ⟨some 98, _, _, _, _, _⟩) rfl _ _ rfl Q 0 rfl (pcs nw ne) ((Has.refl _).range rQ9) (sz_pair KNW.out KNE.out) ?_))
                  | ((with_reducible refine arm_store (o := ⟨none, _, _, _, _, _⟩) rfl _ _ _ rfl V 0 rfl (pcs nw ne) rfl _ _ (rV9) GP.out (pcs_one _ _) (sz_pair KNW.out KNE.out) ?_); intro t7 ht7 ot7 st7))
                go_roundw
                case rel => exact ⟨⟨k + 1, es ++ [y], nw, ne, p2, cap2, by omega, by go_num, by rw [hln], by rw [HLS.out], O9.only ot7 bV, ht7.congr LP.out, rW9.only ot7 (Ne.symm hVW), rG9.only ot7 hGV, by rw [hln]; omega, NXT.out, KNW.out, KNE.out, by rw [hln]; have := HNL.out; omega, HSO2.out, by rw [HLS.out]; exact hsb⟩, below_only bel9 ot7 lV bel9.size, Nat.le_trans z9 (Nat.le_of_eq st7.out.symm)⟩
                case measure => simp [intOf]; omega
              · have HL := Lib.hid (show decide ((0 : Int) < (es.length : Int)) = true by exact decide_eq_true (by omega))
                have EE := Lib.hid O1.ents
                have CN : Hid (∀ w0, Ents w0 p es → w0.rangeAt 0 0 (u32s ks) → Calls Tryd.prog 15 #[.agg (u8s x).toArray, .slice p es.length cap] w0 fun e w' => e = .returned (.agg (dcs d).toArray) ∧ Below w0.heap.size w0 w') := Lib.hid fun w0 h1 h2 => by have h := next_any x es p cap w0 KX.out h1 HLE.out h2; rw [← HD.out] at h; exact h
                clear hes
                refine wp_region_quiet (C := fun w' => Below r1.heap.size r1 w') (by kernel_rfl) (by kernel_rfl) ((Below.refl _ _).drew) ?_
                rw [List.toList_toArray]
                refine q_value 52 rfl (.slice p es.length cap) (by kernel_rfl) (fun w' _ => by kernel_rfl) ?_
                simp only [Act.put, List.setIfInBounds_toArray, List.set_cons_zero, List.set_cons_succ]
                refine q_value 53 rfl (.int .i64 (es.length : Int)) (by kernel_rfl) (fun w' _ => by kernel_rfl) ?_
                simp only [Act.put, List.setIfInBounds_toArray, List.set_cons_zero, List.set_cons_succ]
                refine q_value 54 rfl (.bool true) (by kernel_rfl) (fun w' _ => run_op_gtrB _ _ _ _ rfl .i64 (es.length : Int) 0 rfl rfl true HL.out w') ?_
                simp only [Act.put, List.setIfInBounds_toArray, List.set_cons_zero, List.set_cons_succ]
                refine q_value 55 rfl (.bool true) (by kernel_rfl) (fun w' _ => by kernel_rfl) ?_
                simp only [Act.put, List.setIfInBounds_toArray, List.set_cons_zero, List.set_cons_succ]
                refine q_value 56 rfl (.agg (dcs d).toArray) (by kernel_rfl) (fun w' hC => run_op_load _ _ rfl W 0 rfl (dcs d) ((Has.refl _).range (rW1.old hC)) (sz_rdat KD.out)) ?_
                simp only [Act.put, List.setIfInBounds_toArray, List.set_cons_zero, List.set_cons_succ]
                refine q_value 57 rfl (.agg (u8s x).toArray) (by kernel_rfl) (fun w' hC => run_op_load _ _ rfl G 0 rfl (u8s x) ((Has.refl _).range (rG1.old hC)) (szH KX.out)) ?_
                simp only [Act.put, List.setIfInBounds_toArray, List.set_cons_zero, List.set_cons_succ]
                refine q_value 58 rfl (.slice p es.length cap) (by kernel_rfl) (fun w' _ => by kernel_rfl) ?_
                simp only [Act.put, List.setIfInBounds_toArray, List.set_cons_zero, List.set_cons_succ]
                refine q_call 59 rfl (.agg (dcs d).toArray) 15 #[.agg (u8s x).toArray, .slice p es.length cap] (by kernel_rfl) (fun w' _ => run_op_call _ _ _ rfl _ (by simp only [List.map_toArray, List.map_cons, List.map_nil]; rfl) Tryd.func15 (by kernel_rfl) (by kernel_rfl) w') (fun w' hC => (CN.out w' (EE.out.below hC) (HKR.out w' (below_step bel1 bel1.size hC))).mono fun e w'' h => ⟨h.1, below_step hC hC.size h.2⟩) ?_
                simp only [Act.put, List.setIfInBounds_toArray, List.set_cons_zero, List.set_cons_succ]
                refine q_value 60 rfl (.bool false) (by kernel_rfl) (fun w' _ => run_op_neqRDat d KD.out _ _ _ rfl rfl rfl w') ?_
                simp only [Act.put, List.setIfInBounds_toArray, List.set_cons_zero, List.set_cons_succ]
                refine q_value 61 rfl (.bool false) (by kernel_rfl) (fun w' _ => by kernel_rfl) ?_
                simp only [Act.put, List.setIfInBounds_toArray, List.set_cons_zero, List.set_cons_succ]
                refine wpQuiet_nil ?_
                intro r2 hC
                have rX5 := rX1.old hC; have rV5 := rV1.old hC; have rW5 := (rW1.old hC).congr (show dcs d = dcs nw by rw [HND.out]); have rG5 := rG1.old hC; have O5 := O1.below hC
                have bel5 : Below w.heap.size w r2 := below_step bel1 bel1.size hC
                have z5 : base ≤ r2.heap.size := Nat.le_trans z1 hC.size
                clear hC rX1 rV1 rW1 rG1 O1 bel1 z1 EE CN
                go_wp2_with (first
                  | ((with_reducible refine at_slot 63 ?_); (refine arm_load (o := ⟨some 63, _, _, _, _, _⟩) rfl _ _ rfl V 0 rfl (pcs c d) ((Has.refl _).range rV5) (sz_pair KC.out KD.out) ?_))
                  | ((with_reducible refine at_slot 67 ?_); (refine arm_load (o := ⟨some 67, _, _, _, _, _⟩) rfl _ _ rfl X 1 rfl (u8s st.prev) ((show Has (scs st) 1 (u8s st.prev) from t_prev (Has.refl _)).range rX5) (szH KT.out.prev) ?_))
                  | ((with_reducible refine at_slot 69 ?_); (refine arm_load (o := ⟨some 69, _, _, _, _, _⟩) rfl _ _ rfl X 33 rfl (u8s st.led) ((show Has (scs st) 33 (u8s st.led) from t_led KT.out (Has.refl _)).range rX5) (szH KT.out.led) ?_))
                  | ((with_reducible refine at_slot 71 ?_); (refine arm_load (o := ⟨some 71, _, _, _, _, _⟩) rfl _ _ rfl X 65 rfl (u8s st.draw) ((show Has (scs st) 65 (u8s st.draw) from t_draw KT.out (Has.refl _)).range rX5) (szH KT.out.draw) ?_))
                  | ((with_reducible refine at_slot 72 ?_); (refine arm_build (o := ⟨some 72, _, _, _, _, _⟩) rfl _ _ rfl (bcs b2) (by simp only [List.map_toArray, List.map_cons, List.map_nil]; exact BB.out) ?_)))
                refine (CF.out _ (HKW.out _ bel5)).mono ?_
                rintro e4 t1 ⟨rfl, hB⟩
                have rX6 := rX5.old hB; have rV6 := rV5.old hB; have rW6 := rW5.old hB; have rG6 := rG5.old hB; have O6 := O5.below hB
                have bel6 : Below w.heap.size w t1 := below_step bel5 bel5.size hB
                have z6 : base ≤ t1.heap.size := Nat.le_trans z5 hB.size
                clear hB rX5 rV5 rW5 rG5 O5 bel5 z5 CF BB
                go_wp2_with (first
                  | ((with_reducible refine at_slot 13 ?_); (refine arm_alloc (o := ⟨some 13, _, _, _, _, _⟩) rfl _ rfl (pcs zd zd) z_pair ?_); intro Q t2 Qe ht2 nt2)
                  | ((with_reducible refine arm_store (o := ⟨none, _, _, _, _, _⟩) rfl _ _ _ rfl Q 0 rfl (pcs nw ne) rfl _ _ (ht2) (fitP KNW.out KNE.out) (pcs_one _ _) (sz_pair KNW.out KNE.out) ?_); intro t3 ht3 ot3 st3)
                  | ((with_reducible refine at_slot 78 ?_); (refine arm_load (o := ⟨some 78, _, _, _, _, _⟩) rfl _ _ rfl X 0 rfl (scs st) ((Has.refl _).range (rX6.old (below_only nt2.below ot3 (by have := Qe.out; omega) (by have := nt2.size; omega)))) (sz_step KT.out) ?_))
                  | ((with_reducible refine at_slot 79 ?_); (refine arm_build (o := ⟨some 79, _, _, _, _, _⟩) rfl _ _ rfl (bcs y) (by simp only [List.map_toArray, List.map_cons, List.map_nil]; exact BY.out) ?_))
                  | ((with_reducible refine at_slot 80 ?_); (refine arm_oneE (o := ⟨some 80, _, _, _, _, _⟩) rfl _ rfl y KY.out (by simp only [List.map_toArray, List.map_cons, List.map_nil]; rfl) ?_); intro U t4 Ue ht4 nt4)
                  | ((with_reducible refine at_slot 81 ?_); (refine arm_appendE (o := ⟨some 81, _, _, _, _, _⟩) rfl _ _ rfl base p es.length cap es rfl rfl ((O6.below (below_only nt2.below ot3 (by have := Qe.out; omega) (by have := nt2.size; omega))).below nt4.below) U y KY.out rfl ht4 HLE.out (Nat.le_trans z6 (Nat.le_trans (below_only nt2.below ot3 (by have := Qe.out; omega) (by have := nt2.size; omega)).size nt4.below.size)) ?_); intro p2 cap2 t5 O8 hB8 hrow8))
                have BQ : Below t1.heap.size t1 t3 := (below_only nt2.below ot3 (by have := Qe.out; omega) (by have := nt2.size; omega))
                have rV7 := (rV6.old BQ).old nt4.below; have rW7 := (rW6.old BQ).old nt4.below; have rG7 := (rG6.old BQ).old nt4.below
                have rQ7 := (ht3.congr (allP KNW.out KNE.out)).old nt4.below
                have rV8 := hrow8.out _ _ _ (by decide) rV7; have rW8 := hrow8.out _ _ _ (by decide) rW7; have rG8 := hrow8.out _ _ _ (by decide) rG7; have rQ8 := hrow8.out _ _ _ (by decide) rQ7
                have bel7 : Below w.heap.size w t4 := below_step (below_step bel6 bel6.size BQ) (Nat.le_trans bel6.size BQ.size) nt4.below
                have z7 : base ≤ t4.heap.size := Nat.le_trans z6 (Nat.le_trans BQ.size nt4.below.size)
                have bel8 : Below w.heap.size w t5 := bel7.trans (hB8.mono lb)
                have z8 : base ≤ t5.heap.size := Nat.le_trans z7 hB8.size
                have hVQ : V ≠ Q := by have := rV6.lt; have := Qe.out; omega
                clear rV7 rW7 rG7 rQ7 bel7 z7 hB8 hrow8 BQ Ue ht4 nt4 Qe ht2 nt2 ht3 ot3 st3 rX6 rV6 rW6 rG6 O6 bel6 z6 BY
                have hln : (es ++ [y]).length = es.length + 1 := by simp
                have EE := Lib.hid O8.ents
                have CN : Hid (∀ w0, Ents w0 p2 (es ++ [y]) → w0.rangeAt 0 0 (u32s ks) → Calls Tryd.prog 15 #[.agg (u8s x).toArray, .slice p2 (es.length + 1) cap2] w0 fun e w' => e = .returned (.agg (dcs ne).toArray) ∧ Below w0.heap.size w0 w') := Lib.hid fun w0 h1 h2 => by have h := next_any x (es ++ [y]) p2 cap2 w0 KX.out h1 (by rw [hln]; have := HLE.out; omega) h2; rw [hln, ← NXT.out] at h; exact h
                refine wp_region_quiet (C := fun w' => Below t5.heap.size t5 w') (by kernel_rfl) (by kernel_rfl) ((Below.refl _ _).drew) ?_
                rw [List.toList_toArray]
                refine q_value 82 rfl (.int .i64 0) (by kernel_rfl) (fun w' _ => by kernel_rfl) ?_
                simp only [Act.put, List.setIfInBounds_toArray, List.set_cons_zero, List.set_cons_succ]
                refine q_value 83 rfl (.bool false) (by kernel_rfl) (fun w' _ => by kernel_rfl) ?_
                simp only [Act.put, List.setIfInBounds_toArray, List.set_cons_zero, List.set_cons_succ]
                refine q_value 84 rfl (.bool false) (by kernel_rfl) (fun w' _ => by kernel_rfl) ?_
                simp only [Act.put, List.setIfInBounds_toArray, List.set_cons_zero, List.set_cons_succ]
                refine q_value 85 rfl (.pointer (some ⟨Q, 0, none⟩)) (by kernel_rfl) (fun w' _ => by kernel_rfl) ?_
                simp only [Act.put, List.setIfInBounds_toArray, List.set_cons_zero, List.set_cons_succ]
                refine q_value 86 rfl (.agg (dcs nw).toArray) (by kernel_rfl) (fun w' hC => run_op_load _ _ rfl Q 0 rfl (dcs nw) ((p_now (Has.refl (pcs nw ne))).range (rQ8.old hC)) (sz_dat KNW.out)) ?_
                simp only [Act.put, List.setIfInBounds_toArray, List.set_cons_zero, List.set_cons_succ]
                refine q_value 87 rfl (.agg (dcs nw).toArray) (by kernel_rfl) (fun w' hC => run_op_load _ _ rfl W 0 rfl (dcs nw) ((Has.refl _).range (rW8.old hC)) (sz_rdat KNW.out)) ?_
                simp only [Act.put, List.setIfInBounds_toArray, List.set_cons_zero, List.set_cons_succ]
                refine q_value 88 rfl (.bool false) (by kernel_rfl) (fun w' _ => run_op_neqRDat nw KNW.out _ _ _ rfl rfl rfl w') ?_
                simp only [Act.put, List.setIfInBounds_toArray, List.set_cons_zero, List.set_cons_succ]
                refine q_value 89 rfl (.bool false) (by kernel_rfl) (fun w' _ => by kernel_rfl) ?_
                simp only [Act.put, List.setIfInBounds_toArray, List.set_cons_zero, List.set_cons_succ]
                refine q_value 90 rfl (.bool false) (by kernel_rfl) (fun w' _ => by kernel_rfl) ?_
                simp only [Act.put, List.setIfInBounds_toArray, List.set_cons_zero, List.set_cons_succ]
                refine q_value 91 rfl (.pointer (some ⟨Q, 129, none⟩)) (by kernel_rfl) (fun w' _ => by kernel_rfl) ?_
                simp only [Act.put, List.setIfInBounds_toArray, List.set_cons_zero, List.set_cons_succ]
                refine q_value 92 rfl (.agg (dcs ne).toArray) (by kernel_rfl) (fun w' hC => run_op_load _ _ rfl Q 129 rfl (dcs ne) ((show Has (pcs nw ne) 129 (dcs ne) from p_next KNW.out (Has.refl _)).range (rQ8.old hC)) (sz_dat KNE.out)) ?_
                simp only [Act.put, List.setIfInBounds_toArray, List.set_cons_zero, List.set_cons_succ]
                refine q_value 93 rfl (.agg (u8s x).toArray) (by kernel_rfl) (fun w' hC => run_op_load _ _ rfl G 0 rfl (u8s x) ((Has.refl _).range (rG8.old hC)) (szH KX.out)) ?_
                simp only [Act.put, List.setIfInBounds_toArray, List.set_cons_zero, List.set_cons_succ]
                refine q_value 94 rfl (.slice p2 (es.length + 1) cap2) (by kernel_rfl) (fun w' _ => by kernel_rfl) ?_
                simp only [Act.put, List.setIfInBounds_toArray, List.set_cons_zero, List.set_cons_succ]
                refine q_call 95 rfl (.agg (dcs ne).toArray) 15 #[.agg (u8s x).toArray, .slice p2 (es.length + 1) cap2] (by kernel_rfl) (fun w' _ => run_op_call _ _ _ rfl _ (by simp only [List.map_toArray, List.map_cons, List.map_nil]; rfl) Tryd.func15 (by kernel_rfl) (by kernel_rfl) w') (fun w' hC => (CN.out w' (EE.out.below hC) (HKR.out w' (below_step bel8 bel8.size hC))).mono fun e w'' h => ⟨h.1, below_step hC hC.size h.2⟩) ?_
                simp only [Act.put, List.setIfInBounds_toArray, List.set_cons_zero, List.set_cons_succ]
                refine q_value 96 rfl (.bool false) (by kernel_rfl) (fun w' _ => run_op_neqRDat ne KNE.out _ _ _ rfl rfl rfl w') ?_
                simp only [Act.put, List.setIfInBounds_toArray, List.set_cons_zero, List.set_cons_succ]
                refine q_value 97 rfl (.bool false) (by kernel_rfl) (fun w' _ => by kernel_rfl) ?_
                simp only [Act.put, List.setIfInBounds_toArray, List.set_cons_zero, List.set_cons_succ]
                refine wpQuiet_nil ?_
                intro t6 hC
                have rV9 := rV8.old hC; have rW9 := rW8.old hC; have rG9 := rG8.old hC; have rQ9 := rQ8.old hC; have O9 := O8.below hC
                have bel9 : Below w.heap.size w t6 := below_step bel8 bel8.size hC
                have z9 : base ≤ t6.heap.size := Nat.le_trans z8 hC.size
                clear hC rV8 rW8 rG8 rQ8 O8 bel8 z8 EE CN
                have GP := Lib.hid (show 0 + (pcs nw ne).length ≤ (pcs c d).length by rw [pcs_len KNW.out KNE.out, pcs_len KC.out KD.out]; omega)
                have LP := Lib.hid (show lay (pcs c d) 0 (pcs nw ne) = pcs nw ne from lay_all _ _ (by rw [pcs_len KNW.out KNE.out, pcs_len KC.out KD.out]))
                go_wp2_with (first
                  | ((with_reducible refine at_slot 98 ?_); (refine arm_load (o := ⟨some 98, _, _, _, _, _⟩) rfl _ _ rfl Q 0 rfl (pcs nw ne) ((Has.refl _).range rQ9) (sz_pair KNW.out KNE.out) ?_))
                  | ((with_reducible refine arm_store (o := ⟨none, _, _, _, _, _⟩) rfl _ _ _ rfl V 0 rfl (pcs nw ne) rfl _ _ (rV9) GP.out (pcs_one _ _) (sz_pair KNW.out KNE.out) ?_); intro t7 ht7 ot7 st7))
                go_roundw
                case rel => exact ⟨⟨k + 1, es ++ [y], nw, ne, p2, cap2, by omega, by go_num, by rw [hln], by rw [HLS.out], O9.only ot7 bV, ht7.congr LP.out, rW9.only ot7 (Ne.symm hVW), rG9.only ot7 hGV, by rw [hln]; omega, NXT.out, KNW.out, KNE.out, by rw [hln]; have := HNL.out; omega, HSO2.out, by rw [HLS.out]; exact hsb⟩, below_only bel9 ot7 lV bel9.size, Nat.le_trans z9 (Nat.le_of_eq st7.out.symm)⟩
                case measure => simp [intOf]; omega
            · have HG := Lib.hid (show decide ((T : Int) < (E : Int)) = false from decide_eq_false (by omega))
              have HND := Lib.hid (HTE.out.2 htu)
              clear HTE htu
              have rW5 := rW0.congr (show dcs c = dcs nw by rw [HND.out]); have rX5 := rX0; have rV5 := rV0; have rG5 := rG0; have O5 := O0; have bel5 := bel0; have z5 := z0
              clear rW0 rX0 rV0 rG0 O0 bel0 z0
              go_wp2_with (first
                | ((with_reducible refine at_slot 49 ?_); (refine arm_want (.bool false) 49 rfl (by kernel_rfl) (run_op_gtrB _ _ _ _ rfl .u32 (E : Int) (T : Int) rfl rfl false HG.out _) ?_))
                | ((with_reducible refine at_slot 63 ?_); (refine arm_load (o := ⟨some 63, _, _, _, _, _⟩) rfl _ _ rfl V 0 rfl (pcs c d) ((Has.refl _).range rV5) (sz_pair KC.out KD.out) ?_))
                | ((with_reducible refine at_slot 67 ?_); (refine arm_load (o := ⟨some 67, _, _, _, _, _⟩) rfl _ _ rfl X 1 rfl (u8s st.prev) ((show Has (scs st) 1 (u8s st.prev) from t_prev (Has.refl _)).range rX5) (szH KT.out.prev) ?_))
                | ((with_reducible refine at_slot 69 ?_); (refine arm_load (o := ⟨some 69, _, _, _, _, _⟩) rfl _ _ rfl X 33 rfl (u8s st.led) ((show Has (scs st) 33 (u8s st.led) from t_led KT.out (Has.refl _)).range rX5) (szH KT.out.led) ?_))
                | ((with_reducible refine at_slot 71 ?_); (refine arm_load (o := ⟨some 71, _, _, _, _, _⟩) rfl _ _ rfl X 65 rfl (u8s st.draw) ((show Has (scs st) 65 (u8s st.draw) from t_draw KT.out (Has.refl _)).range rX5) (szH KT.out.draw) ?_))
                | ((with_reducible refine at_slot 72 ?_); (refine arm_build (o := ⟨some 72, _, _, _, _, _⟩) rfl _ _ rfl (bcs b2) (by simp only [List.map_toArray, List.map_cons, List.map_nil]; exact BB.out) ?_)))
              refine (CF.out _ (HKW.out _ bel5)).mono ?_
              rintro e4 t1 ⟨rfl, hB⟩
              have rX6 := rX5.old hB; have rV6 := rV5.old hB; have rW6 := rW5.old hB; have rG6 := rG5.old hB; have O6 := O5.below hB
              have bel6 : Below w.heap.size w t1 := below_step bel5 bel5.size hB
              have z6 : base ≤ t1.heap.size := Nat.le_trans z5 hB.size
              clear hB rX5 rV5 rW5 rG5 O5 bel5 z5 CF BB
              go_wp2_with (first
                | ((with_reducible refine at_slot 13 ?_); (refine arm_alloc (o := ⟨some 13, _, _, _, _, _⟩) rfl _ rfl (pcs zd zd) z_pair ?_); intro Q t2 Qe ht2 nt2)
                | ((with_reducible refine arm_store (o := ⟨none, _, _, _, _, _⟩) rfl _ _ _ rfl Q 0 rfl (pcs nw ne) rfl _ _ (ht2) (fitP KNW.out KNE.out) (pcs_one _ _) (sz_pair KNW.out KNE.out) ?_); intro t3 ht3 ot3 st3)
                | ((with_reducible refine at_slot 78 ?_); (refine arm_load (o := ⟨some 78, _, _, _, _, _⟩) rfl _ _ rfl X 0 rfl (scs st) ((Has.refl _).range (rX6.old (below_only nt2.below ot3 (by have := Qe.out; omega) (by have := nt2.size; omega)))) (sz_step KT.out) ?_))
                | ((with_reducible refine at_slot 79 ?_); (refine arm_build (o := ⟨some 79, _, _, _, _, _⟩) rfl _ _ rfl (bcs y) (by simp only [List.map_toArray, List.map_cons, List.map_nil]; exact BY.out) ?_))
                | ((with_reducible refine at_slot 80 ?_); (refine arm_oneE (o := ⟨some 80, _, _, _, _, _⟩) rfl _ rfl y KY.out (by simp only [List.map_toArray, List.map_cons, List.map_nil]; rfl) ?_); intro U t4 Ue ht4 nt4)
                | ((with_reducible refine at_slot 81 ?_); (refine arm_appendE (o := ⟨some 81, _, _, _, _, _⟩) rfl _ _ rfl base p es.length cap es rfl rfl ((O6.below (below_only nt2.below ot3 (by have := Qe.out; omega) (by have := nt2.size; omega))).below nt4.below) U y KY.out rfl ht4 HLE.out (Nat.le_trans z6 (Nat.le_trans (below_only nt2.below ot3 (by have := Qe.out; omega) (by have := nt2.size; omega)).size nt4.below.size)) ?_); intro p2 cap2 t5 O8 hB8 hrow8))
              have BQ : Below t1.heap.size t1 t3 := (below_only nt2.below ot3 (by have := Qe.out; omega) (by have := nt2.size; omega))
              have rV7 := (rV6.old BQ).old nt4.below; have rW7 := (rW6.old BQ).old nt4.below; have rG7 := (rG6.old BQ).old nt4.below
              have rQ7 := (ht3.congr (allP KNW.out KNE.out)).old nt4.below
              have rV8 := hrow8.out _ _ _ (by decide) rV7; have rW8 := hrow8.out _ _ _ (by decide) rW7; have rG8 := hrow8.out _ _ _ (by decide) rG7; have rQ8 := hrow8.out _ _ _ (by decide) rQ7
              have bel7 : Below w.heap.size w t4 := below_step (below_step bel6 bel6.size BQ) (Nat.le_trans bel6.size BQ.size) nt4.below
              have z7 : base ≤ t4.heap.size := Nat.le_trans z6 (Nat.le_trans BQ.size nt4.below.size)
              have bel8 : Below w.heap.size w t5 := bel7.trans (hB8.mono lb)
              have z8 : base ≤ t5.heap.size := Nat.le_trans z7 hB8.size
              have hVQ : V ≠ Q := by have := rV6.lt; have := Qe.out; omega
              clear rV7 rW7 rG7 rQ7 bel7 z7 hB8 hrow8 BQ Ue ht4 nt4 Qe ht2 nt2 ht3 ot3 st3 rX6 rV6 rW6 rG6 O6 bel6 z6 BY
              have hln : (es ++ [y]).length = es.length + 1 := by simp
              have EE := Lib.hid O8.ents
              have CN : Hid (∀ w0, Ents w0 p2 (es ++ [y]) → w0.rangeAt 0 0 (u32s ks) → Calls Tryd.prog 15 #[.agg (u8s x).toArray, .slice p2 (es.length + 1) cap2] w0 fun e w' => e = .returned (.agg (dcs ne).toArray) ∧ Below w0.heap.size w0 w') := Lib.hid fun w0 h1 h2 => by have h := next_any x (es ++ [y]) p2 cap2 w0 KX.out h1 (by rw [hln]; have := HLE.out; omega) h2; rw [hln, ← NXT.out] at h; exact h
              refine wp_region_quiet (C := fun w' => Below t5.heap.size t5 w') (by kernel_rfl) (by kernel_rfl) ((Below.refl _ _).drew) ?_
              rw [List.toList_toArray]
              refine q_value 82 rfl (.int .i64 0) (by kernel_rfl) (fun w' _ => by kernel_rfl) ?_
              simp only [Act.put, List.setIfInBounds_toArray, List.set_cons_zero, List.set_cons_succ]
              refine q_value 83 rfl (.bool false) (by kernel_rfl) (fun w' _ => by kernel_rfl) ?_
              simp only [Act.put, List.setIfInBounds_toArray, List.set_cons_zero, List.set_cons_succ]
              refine q_value 84 rfl (.bool false) (by kernel_rfl) (fun w' _ => by kernel_rfl) ?_
              simp only [Act.put, List.setIfInBounds_toArray, List.set_cons_zero, List.set_cons_succ]
              refine q_value 85 rfl (.pointer (some ⟨Q, 0, none⟩)) (by kernel_rfl) (fun w' _ => by kernel_rfl) ?_
              simp only [Act.put, List.setIfInBounds_toArray, List.set_cons_zero, List.set_cons_succ]
              refine q_value 86 rfl (.agg (dcs nw).toArray) (by kernel_rfl) (fun w' hC => run_op_load _ _ rfl Q 0 rfl (dcs nw) ((p_now (Has.refl (pcs nw ne))).range (rQ8.old hC)) (sz_dat KNW.out)) ?_
              simp only [Act.put, List.setIfInBounds_toArray, List.set_cons_zero, List.set_cons_succ]
              refine q_value 87 rfl (.agg (dcs nw).toArray) (by kernel_rfl) (fun w' hC => run_op_load _ _ rfl W 0 rfl (dcs nw) ((Has.refl _).range (rW8.old hC)) (sz_rdat KNW.out)) ?_
              simp only [Act.put, List.setIfInBounds_toArray, List.set_cons_zero, List.set_cons_succ]
              refine q_value 88 rfl (.bool false) (by kernel_rfl) (fun w' _ => run_op_neqRDat nw KNW.out _ _ _ rfl rfl rfl w') ?_
              simp only [Act.put, List.setIfInBounds_toArray, List.set_cons_zero, List.set_cons_succ]
              refine q_value 89 rfl (.bool false) (by kernel_rfl) (fun w' _ => by kernel_rfl) ?_
              simp only [Act.put, List.setIfInBounds_toArray, List.set_cons_zero, List.set_cons_succ]
              refine q_value 90 rfl (.bool false) (by kernel_rfl) (fun w' _ => by kernel_rfl) ?_
              simp only [Act.put, List.setIfInBounds_toArray, List.set_cons_zero, List.set_cons_succ]
              refine q_value 91 rfl (.pointer (some ⟨Q, 129, none⟩)) (by kernel_rfl) (fun w' _ => by kernel_rfl) ?_
              simp only [Act.put, List.setIfInBounds_toArray, List.set_cons_zero, List.set_cons_succ]
              refine q_value 92 rfl (.agg (dcs ne).toArray) (by kernel_rfl) (fun w' hC => run_op_load _ _ rfl Q 129 rfl (dcs ne) ((show Has (pcs nw ne) 129 (dcs ne) from p_next KNW.out (Has.refl _)).range (rQ8.old hC)) (sz_dat KNE.out)) ?_
              simp only [Act.put, List.setIfInBounds_toArray, List.set_cons_zero, List.set_cons_succ]
              refine q_value 93 rfl (.agg (u8s x).toArray) (by kernel_rfl) (fun w' hC => run_op_load _ _ rfl G 0 rfl (u8s x) ((Has.refl _).range (rG8.old hC)) (szH KX.out)) ?_
              simp only [Act.put, List.setIfInBounds_toArray, List.set_cons_zero, List.set_cons_succ]
              refine q_value 94 rfl (.slice p2 (es.length + 1) cap2) (by kernel_rfl) (fun w' _ => by kernel_rfl) ?_
              simp only [Act.put, List.setIfInBounds_toArray, List.set_cons_zero, List.set_cons_succ]
              refine q_call 95 rfl (.agg (dcs ne).toArray) 15 #[.agg (u8s x).toArray, .slice p2 (es.length + 1) cap2] (by kernel_rfl) (fun w' _ => run_op_call _ _ _ rfl _ (by simp only [List.map_toArray, List.map_cons, List.map_nil]; rfl) Tryd.func15 (by kernel_rfl) (by kernel_rfl) w') (fun w' hC => (CN.out w' (EE.out.below hC) (HKR.out w' (below_step bel8 bel8.size hC))).mono fun e w'' h => ⟨h.1, below_step hC hC.size h.2⟩) ?_
              simp only [Act.put, List.setIfInBounds_toArray, List.set_cons_zero, List.set_cons_succ]
              refine q_value 96 rfl (.bool false) (by kernel_rfl) (fun w' _ => run_op_neqRDat ne KNE.out _ _ _ rfl rfl rfl w') ?_
              simp only [Act.put, List.setIfInBounds_toArray, List.set_cons_zero, List.set_cons_succ]
              refine q_value 97 rfl (.bool false) (by kernel_rfl) (fun w' _ => by kernel_rfl) ?_
              simp only [Act.put, List.setIfInBounds_toArray, List.set_cons_zero, List.set_cons_succ]
              refine wpQuiet_nil ?_
              intro t6 hC
              have rV9 := rV8.old hC; have rW9 := rW8.old hC; have rG9 := rG8.old hC; have rQ9 := rQ8.old hC; have O9 := O8.below hC
              have bel9 : Below w.heap.size w t6 := below_step bel8 bel8.size hC
              have z9 : base ≤ t6.heap.size := Nat.le_trans z8 hC.size
              clear hC rV8 rW8 rG8 rQ8 O8 bel8 z8 EE CN
              have GP := Lib.hid (show 0 + (pcs nw ne).length ≤ (pcs c d).length by rw [pcs_len KNW.out KNE.out, pcs_len KC.out KD.out]; omega)
              have LP := Lib.hid (show lay (pcs c d) 0 (pcs nw ne) = pcs nw ne from lay_all _ _ (by rw [pcs_len KNW.out KNE.out, pcs_len KC.out KD.out]))
              go_wp2_with (first
                | ((with_reducible refine at_slot 98 ?_); (refine arm_load (o := ⟨some 98, _, _, _, _, _⟩) rfl _ _ rfl Q 0 rfl (pcs nw ne) ((Has.refl _).range rQ9) (sz_pair KNW.out KNE.out) ?_))
                | ((with_reducible refine arm_store (o := ⟨none, _, _, _, _, _⟩) rfl _ _ _ rfl V 0 rfl (pcs nw ne) rfl _ _ (rV9) GP.out (pcs_one _ _) (sz_pair KNW.out KNE.out) ?_); intro t7 ht7 ot7 st7))
              go_roundw
              case rel => exact ⟨⟨k + 1, es ++ [y], nw, ne, p2, cap2, by omega, by go_num, by rw [hln], by rw [HLS.out], O9.only ot7 bV, ht7.congr LP.out, rW9.only ot7 (Ne.symm hVW), rG9.only ot7 hGV, by rw [hln]; omega, NXT.out, KNW.out, KNE.out, by rw [hln]; have := HNL.out; omega, HSO2.out, by rw [HLS.out]; exact hsb⟩, below_only bel9 ot7 lV bel9.size, Nat.le_trans z9 (Nat.le_of_eq st7.out.symm)⟩
              case measure => simp [intOf]; omega
        · skip
          refine (Slot.later_over a st.to _ hlast KT.out.to (by omega)).mono ?_
          rintro e1 z1 ⟨rfl, rfl⟩
          go_wp2_with fail
          go_roundw
          case rel => exact ⟨⟨k + 1, es, c, d, p, cap, by omega, by go_num, rfl, by rw [HA.out], O0, rV0, rW0, rG0, by omega, HD.out, KC.out, KD.out, hdl, HSO.out, by rw [← HA.out]; exact hlast⟩, bel0, z0⟩
          case measure => simp [intOf]; omega
      · go_wp2_with fail
        go_ret
        exact ⟨rfl, bel⟩
end Go.Proofs.YtijpgncecfgfdaaDoor.Ep
