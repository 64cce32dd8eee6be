/-
  The contract of the law's 'next': what Next is, told of a whole history. Over this seat's translation.
-/
import Derived.Test.YtijpgncecfgfdaaDoorEpoAwake
import Derived.Test.YtijpgncecfgfdaaDoorEpoEnts
import Derived.Test.YtijpgncecfgfdaaDoorEpoHist
import Derived.Test.YtijpgncecfgfdaaDoorEpoLaws3
namespace Go.Proofs.YtijpgncecfgfdaaDoor.Ep
open Go.ChangeShapes Go.WideShapes Go.ChangeAt Go.RowKit Go.Proofs.YtijpgncecfgfdaaDoor.Mem Go.Proofs.YtijpgncecfgfdaaDoor.Bt Go.Proofs.YtijpgncecfgfdaaDoor.Sha Go.Proofs.YtijpgncecfgfdaaDoor.Tg
set_option linter.unusedVariables false
set_option linter.unusedSimpArgs false

theorem run_op_lssI {P : Program} {o : Oper} {a : Act} (t t' : TypeId) (x y : Operand) (ho : o.op = .binOp .lss t x y t') (k : IntKind) (m n : Int) (hx : a.eval x = .int k m) (hy : a.eval y = .int k n) (w : World) :
    (execOp a.eval o).run P w = .ok (.value (.bool (decide (m < n)))) w := by
  unfold execOp
  simp [ho, hx, hy, eqGuard, binOp, Op.intCmp]
  try rfl
theorem run_op_lssB {P : Program} {o : Oper} {a : Act} (t t' : TypeId) (x y : Operand) (ho : o.op = .binOp .lss t x y t') (k : IntKind) (m n : Int) (hx : a.eval x = .int k m) (hy : a.eval y = .int k n) (b : Bool) (hb : decide (m < n) = b) (w : World) :
    (execOp a.eval o).run P w = .ok (.value (.bool b)) w := by
  rw [← hb]; exact run_op_lssI t t' x y ho k m n hx hy w
theorem run_op_gtrB {P : Program} {o : Oper} {a : Act} (t t' : TypeId) (x y : Operand) (ho : o.op = .binOp .gtr t x y t') (k : IntKind) (m n : Int) (hx : a.eval x = .int k m) (hy : a.eval y = .int k n) (b : Bool) (hb : decide (n < m) = b) (w : World) :
    (execOp a.eval o).run P w = .ok (.value (.bool b)) w := by
  rw [← hb]; exact run_op_gtrI t t' x y ho k m n hx hy w
theorem run_op_eqlB {P : Program} {o : Oper} {a : Act} (t t' : TypeId) (k' : IntKind) (hu : P.underlying t = some (.int k')) (x y : Operand) (ho : o.op = .binOp .eql t x y t') (k : IntKind) (m n : Int) (hx : a.eval x = .int k m) (hy : a.eval y = .int k n) (b : Bool) (hb : (m == n) = b) (w : World) :
    (execOp a.eval o).run P w = .ok (.value (.bool b)) w := by
  rw [← hb]; exact run_op_eqlI t t' k' hu x y ho k m n hx hy w
theorem run_op_neqB {P : Program} {o : Oper} {a : Act} (t t' : TypeId) (k' : IntKind) (hu : P.underlying t = some (.int k')) (x y : Operand) (ho : o.op = .binOp .neq t x y t') (k : IntKind) (m n : Int) (hx : a.eval x = .int k m) (hy : a.eval y = .int k n) (b : Bool) (hb : (m == n) = b) (w : World) :
    (execOp a.eval o).run P w = .ok (.value (.bool (!b))) w := by
  rw [← hb]; exact run_op_neqI t t' k' hu x y ho k m n hx hy w
theorem run_op_subI {P : Program} {o : Oper} {a : Act} (t t' : TypeId) (x y : Operand) (ho : o.op = .binOp .sub t x y t') (m n : Int) (hx : a.eval x = .int .i64 m) (hy : a.eval y = .int .i64 n) (hf : IntKind.i64.wrap (m - n) = m - n) (w : World) :
    (execOp a.eval o).run P w = .ok (.value (.int .i64 (m - n))) w := by
  unfold execOp
  simp [ho, hx, hy, eqGuard, binOp, Op.intArith, hf]
theorem run_op_indexN {P : Program} {o : Oper} {a : Act} (t : TypeId) (x ix : Operand) (ho : o.op = .indexAddr t x ix) (e : TypeId) (n : Nat) (hu : P.underlying t = some (.slice e)) (hse : (P.info? e).map (·.size) = some n)
    (g off len cap : Nat) (hx : a.eval x = .slice (some ⟨g, off, none⟩) len cap) (kk : IntKind) (k : Nat) (hi : a.eval ix = .int kk (k : Int)) (hk : k < len) (w : World) : (execOp a.eval o).run P w = .ok (.value (.pointer (some ⟨g, off + k * n, none⟩))) w := by
  cases hq : P.info? e with
  | none => simp [hq] at hse
  | some ie =>
    have hs : ie.size = n := by simpa [hq] using hse
    have h3 : (⟨g, off, none⟩ : Addr).add (k * n) = ⟨g, off + k * n, none⟩ := Addr.add_mid g off (k * n)
    unfold execOp
    simp [ho, hx, hi, Instr.indexAt, asIntOf, run_underlying hu, sizeOf, typeInfo, hq, hs, hk, h3]
theorem cell_of {w : World} {g o : Nat} {b : Blk} (h : w.rangeAt g o (bcs b)) : w.cell? ⟨g, o, none⟩ = some (.int .u32 (b.fro : Int)) := by
  have := h 0 (num32 b.fro) rfl
  rwa [Nat.add_zero] at this
theorem lay_seed0 {d : Dat} {x : List Nat} (k : d.Ok) (hx : H32 x) : lay (dcs d) 32 (u8s x) = dcs ⟨d.led, x, d.start, d.lock, d.len⟩ := by
  have := lay_seed k hx []
  rwa [List.append_nil, List.append_nil] at this
theorem lay_lock0 {d : Dat} {x : List Nat} (k : d.Ok) (hx : H32 x) : lay (dcs d) 96 (u8s x) = dcs ⟨d.led, d.seed, d.start, x, d.len⟩ := by
  have := lay_lock k hx []
  rwa [List.append_nil, List.append_nil] at this
theorem lay_dat0 {d e : Dat} (k : d.Ok) (j : e.Ok) : lay (dcs d) 0 (dcs e) = dcs e := by
  have := lay_dat k j []
  rwa [List.append_nil, List.append_nil] at this
theorem set_len0 {d : Dat} (k : d.Ok) (n : Nat) : (dcs d).set 128 (num32 n) = dcs ⟨d.led, d.seed, d.start, d.lock, n⟩ := by
  have := set_len k n []
  rwa [List.append_nil, List.append_nil] at this
structure NxRel (w : World) (f : List Nat) (l : List Blk) (D R : Nat) (i : Value) (wr : World) : Prop where
  ex : ∃ k : Nat, k ≤ l.length ∧ i = .int .i64 k ∧ Row wr D 35 (dcs (loopD f (lastS l / 24) l k)) ∧ Row wr R 35 (dcs zd)
  bel : Below w.heap.size w wr
set_option maxHeartbeats 20000000 in
set_option maxRecDepth 100000 in
theorem next_any (f : List Nat) (l : List Blk) (P : Option Addr) (cap : Nat) (w : World) (kf : H32 f) (he : Ents w P l) (hn : l.length ≤ 1000) (hk2 : w.rangeAt 0 0 (u32s ks)) :
    Calls Tryd.prog 15 #[.agg (u8s f).toArray, .slice P l.length cap] w fun e w' => e = .returned (.agg (dcs (nextH f l)).toArray) ∧ Below w.heap.size w w' := by
  have hk1 : 0 < w.heap.size := range_lt hk2 (by simp [u32s, ks])
  have HK := Lib.hid hk2; have HE := Lib.hid he; have KF := Lib.hid kf
  have KI := Lib.hid (show (Dat.mk f zh zh zh 1).Ok from ⟨kf, zh_ok, zh_ok, zh_ok, (by decide : 1 < 4294967296)⟩)
  have BI := Lib.hid (built_rdat1 kf)
  have HLK := Lib.hid (fun k hk => loop_ok (E := lastS l / 24) kf he.ok hn k hk)
  clear hk2 he kf
  obtain ⟨d0, hd0⟩ : ∃ d0 : Dat, d0 = ⟨f, zh, zh, zh, 1⟩ := ⟨_, rfl⟩
  rw [← hd0] at KI BI
  have HD0 := Lib.hid (show dcs d0 = dcs (loopD f (lastS l / 24) l 0) by rw [hd0]; rfl)
  clear hd0
  go_enter Tryd.func15, Tryd.ntmps15
  go_wp2_with (first
    | ((with_reducible refine at_slot 2 ?_); (refine arm_box (o := ⟨some 2, _, _, _, _, _⟩) rfl _ _ rfl (u8s f) rfl ?_); intro X w1 Xe hw1 nw1)
    | ((with_reducible refine at_slot 4 ?_); (refine arm_alloc (o := ⟨some 4, _, _, _, _, _⟩) rfl _ rfl (dcs zd) z_rdat ?_); intro R w2 Re hw2 nw2)
    | ((with_reducible refine at_slot 9 ?_); (refine arm_load (o := ⟨some 9, _, _, _, _, _⟩) rfl _ _ rfl X 0 rfl (u8s f) ((Has.refl _).range (hw1.old nw2.below)) (szH KF.out) ?_))
    | ((with_reducible refine at_slot 10 ?_); (refine arm_build (o := ⟨some 10, _, _, _, _, _⟩) rfl _ _ rfl (dcs d0) (by simp only [List.map_toArray, List.map_cons, List.map_nil]; exact BI.out) ?_))
    | ((with_reducible refine at_slot 5 ?_); (refine arm_alloc (o := ⟨some 5, _, _, _, _, _⟩) rfl _ rfl (dcs zd) z_rdat ?_); intro D w3 De hw3 nw3)
    | ((with_reducible refine arm_store (o := ⟨none, _, _, _, _, _⟩) rfl _ _ _ rfl D 0 rfl (dcs d0) rfl _ _ (hw3) (fitD KI.out) (dcs_one _) (sz_rdat KI.out) ?_); intro w4 hw4 ow4 sw4))
  have e1 := Xe.out; have e2 := Re.out; have e3 := De.out; have s1 := nw1.size; have s2 := nw2.size; have s3 := nw3.size; have s4 := sw4.out
  have hRD : R ≠ D := by omega
  have lR : w.heap.size ≤ R := by omega
  have lD : w.heap.size ≤ D := by omega
  have rD0 := (hw4.congr (allD KI.out)).congr HD0.out
  have rR0 := (hw2.old nw3.below).only ow4 hRD
  have bel0 : Below w.heap.size w w4 := below_only (below_step (below_step nw1.below (by omega) nw2.below) (by omega) nw3.below) ow4 lD (by omega)
  have h0 : NxRel w f l D R (.int .i64 0) w4 := ⟨⟨0, by omega, rfl, rD0, rR0⟩, bel0⟩
  clear e1 e2 e3 s1 s2 s3 s4 Xe Re De hw1 nw1 hw2 nw2 hw3 nw3 hw4 ow4 sw4 rD0 rR0 bel0 HD0 BI KI
  go_loopw [13] (fun i wr => NxRel w f l D R i wr) (fun i _ => l.length - (intOf i).toNat)
  case atStart => exact h0
  case round =>
    clear h0
    obtain ⟨⟨k, hk, rfl, rD, rR⟩, bel⟩ := hrel
    by_cases hlt : k < l.length
    · obtain ⟨KD0, hd1, hd2⟩ := HLK.out k hk
      have HKD := Lib.hid KD0
      obtain ⟨d, hd⟩ : ∃ d, d = loopD f (lastS l / 24) l k := ⟨_, rfl⟩
      have HDD := Lib.hid hd
      rw [← hd] at rD KD0 hd1 hd2
      clear HKD
      have KD := Lib.hid KD0
      have HDL := Lib.hid (show d.len + 1 < 4294967296 ∧ 1 ≤ d.len by omega)
      clear hd KD0 hd1 hd2
      obtain ⟨b, hb⟩ : ∃ b, l[k]? = some b := ⟨_, List.getElem?_eq_getElem hlt⟩
      have hbk : l.getD k zb = b := by rw [List.getD_eq_getElem?_getD, hb]; rfl
      have KB := Lib.hid (HE.out.ok.get hb)
      obtain ⟨m, hm⟩ : ∃ m, l.length = m + 1 := ⟨l.length - 1, by omega⟩
      obtain ⟨bl, hbl⟩ : ∃ bl, l[m]? = some bl := ⟨_, List.getElem?_eq_getElem (by omega)⟩
      obtain ⟨S, hS⟩ : ∃ S, S = lastS l := ⟨_, rfl⟩
      have hblS : bl.fro = S := by rw [hS]; unfold lastS; rw [hm, Nat.add_sub_cancel, List.getD_eq_getElem?_getD, hbl]; rfl
      have HSB := Lib.hid (show S < 4294967296 by rw [← hblS]; exact (HE.out.ok.get hbl).fro)
      obtain ⟨g, go, hP, hg, hrb⟩ := HE.out.get hb
      obtain ⟨g2, go2, hP2, hg2, hrs⟩ := HE.out.get hbl
      obtain ⟨rfl, rfl⟩ : g = g2 ∧ go = go2 := by rw [hP] at hP2; injection hP2 with hP2; injection hP2 with h1 h2; exact ⟨h1, h2⟩
      have hJ : ∀ j, j + 1 = k → ∃ pv, l.getD (k - 1) zb = pv ∧ pv.Ok ∧ w.rangeAt g (go + j * 98) (bcs pv) := fun j hj => by
        obtain ⟨pv, hpv⟩ : ∃ pv, l[j]? = some pv := ⟨_, List.getElem?_eq_getElem (by omega)⟩
        obtain ⟨g3, go3, hP3, hg3, hr3⟩ := HE.out.get hpv
        obtain ⟨rfl, rfl⟩ : g = g3 ∧ go = go3 := by rw [hP] at hP3; injection hP3 with hP3; injection hP3 with h1 h2; exact ⟨h1, h2⟩
        exact ⟨pv, by rw [show k - 1 = j by omega, List.getD_eq_getElem?_getD, hpv]; rfl, HE.out.ok.get hpv, hr3⟩
      have HJ := Lib.hid hJ
      subst hP
      have rBx := Lib.hid hrb
      have rS := Lib.hid hrs
      rw [← hS] at HDD
      have HSS := Lib.hid (show loopD f (lastS l / 24) l (k + 1) = stepD (S / 24) l k d by rw [hS]; unfold loopD; rw [← hS, ← HDD.out])
      have HBS := Lib.hid hblS
      clear hP2 hg2 hrb hrs hJ hS HDD
      have HM := Lib.hid hm
      clear hm
      have ik : (k : Int) < (l.length : Int) := by omega
      go_wp2_with (first
        | ((with_reducible refine at_slot 16 ?_); (refine arm_indexN (o := ⟨some 16, _, _, _, _, _⟩) rfl _ _ _ rfl 54 98 und_ents (by kernel_rfl) g go (l.length) cap rfl .i64 k rfl hlt ?_))
        | ((with_reducible refine at_slot 17 ?_); (refine arm_load (o := ⟨some 17, _, _, _, _, _⟩) rfl _ _ rfl g (go + k * 98) rfl (bcs b) (range_block rBx.out (bel.block g hg)) (sz_ent KB.out) ?_))
        | ((with_reducible refine at_slot 7 ?_); (refine arm_alloc (o := ⟨some 7, _, _, _, _, _⟩) rfl _ rfl (bcs zb) z_ent ?_); intro Y v1 Ye hv1 nv1)
        | ((with_reducible refine arm_store (o := ⟨none, _, _, _, _, _⟩) rfl _ _ _ rfl Y 0 rfl (bcs b) rfl _ _ (hv1) (fitB KB.out) (bcs_one _) (sz_ent KB.out) ?_); intro v2 hv2 ov2 sv2)
        | ((with_reducible refine at_slot 19 ?_); (refine arm_want (.int .u32 (b.fro : Int)) 19 rfl (by kernel_rfl) (run_op_load1 _ _ rfl (.int .u32) (by kernel_rfl) rfl ⟨Y, 0, none⟩ rfl (.int .u32 (b.fro : Int)) ((hv2.congr (allB KB.out)).cell (show Has _ 0 _ from b_fro (Has.refl (bcs b))).get)) ?_)))
      have e1 := Ye.out; have s1 := nv1.size; have s3 := rD.lt; have s4 := rR.lt; have s5 := bel.size
      have hYD : Y ≠ D := by omega
      have hDY : D ≠ Y := by omega
      have lY : w.heap.size ≤ Y := by omega
      have rD0 := (rD.old nv1.below).only ov2 hDY; have rR0 := (rR.old nv1.below).only ov2 (show R ≠ Y by omega)
      have rY0 := hv2.congr (allB KB.out)
      have bel0 : Below w.heap.size w v2 := below_only (below_step bel bel.size nv1.below) ov2 lY (by omega)
      clear e1 s1 s3 s4 s5 Ye hv1 nv1 hv2 ov2 sv2 rD rR bel rBx
      obtain ⟨d1, hd1⟩ : ∃ d1, d1 = seedS d b := ⟨_, rfl⟩
      obtain ⟨d2, hd2⟩ : ∃ d2, d2 = Ep.s2 k d1 b := ⟨_, rfl⟩
      obtain ⟨d3, hd3⟩ : ∃ d3, d3 = Ep.s3 l k d2 b := ⟨_, rfl⟩
      obtain ⟨d4, hd4⟩ : ∃ d4, d4 = moreD d3 := ⟨_, rfl⟩
      obtain ⟨d5, hd5⟩ : ∃ d5, d5 = Ep.s4 d4 b := ⟨_, rfl⟩
      have KD1 := Lib.hid (show d1.Ok by rw [hd1]; exact seedS_ok KD.out)
      have KD2 := Lib.hid (show d2.Ok by rw [hd2]; exact s2_ok KD1.out)
      have KD3 := Lib.hid (show d3.Ok by rw [hd3]; exact s3_ok KD2.out KB.out)
      have HN3 := Lib.hid (show d3.len + 1 < 4294967296 by have h1 := seedS_len d b; have h2 := s2_len k d1 b (by rw [hd1, h1]; exact HDL.out.2); have h3 := s3_len l k d2 b; have := HDL.out.1; rw [← hd1] at h1; rw [← hd2] at h2; rw [← hd3] at h3; omega)
      have KD4 := Lib.hid (show d4.Ok by rw [hd4]; exact more_ok KD3.out HN3.out)
      have HD1 := Lib.hid hd1; have HD2 := Lib.hid hd2; have HD3 := Lib.hid hd3; have HD4 := Lib.hid hd4; have HD5 := Lib.hid hd5
      obtain ⟨E, hE⟩ : ∃ E, E = b.fro / 24 := ⟨_, rfl⟩
      obtain ⟨T, hT⟩ : ∃ T, T = S / 24 := ⟨_, rfl⟩
      have CE : Hid (∀ w0, Calls Tryd.prog 14 #[.int .u32 (b.fro : Int)] w0 fun e w' => e = .returned (.int .u32 (E : Int)) ∧ w0 = w') := Lib.hid fun w0 => by rw [hE]; exact Slot.repoch_nat b.fro w0 KB.out.fro
      have CS : Hid (∀ w0, Calls Tryd.prog 14 #[.int .u32 (S : Int)] w0 fun e w' => e = .returned (.int .u32 (T : Int)) ∧ w0 = w') := Lib.hid fun w0 => by rw [hT]; exact Slot.repoch_nat S w0 HSB.out
      have HEE := Lib.hid hE
      have hEb : E < 4294967296 := by have := KB.out.fro; omega
      have hTb : T < 4294967296 := by have := HSB.out; omega
      have HSN := Lib.hid (fun he0 : ¬ E = T => have he : ¬ b.fro / 24 = S / 24 := (by rw [← hE, ← hT]; exact he0); show loopD f (lastS l / 24) l (k + 1) = d1 by rw [HSS.out]; unfold stepD; rw [hbk, if_neg he, hd1])
      have HSY := Lib.hid (fun he0 : E = T => have he : b.fro / 24 = S / 24 := (by rw [← hE, ← hT]; exact he0); show loopD f (lastS l / 24) l (k + 1) = d5 by rw [HSS.out]; unfold stepD; rw [hbk, if_pos he, hd5, hd4, hd3, hd2, hd1])
      clear hd1 hd2 hd3 hd4 hd5 HSS hE hT
      have HBK := Lib.hid hbk
      clear hb hbl hblS hbk
      refine (Slot.rlocking_nat b.fro _ KB.out.fro).mono ?_
      rintro e1 z1 ⟨rfl, rfl⟩
      by_cases hl : b.fro % 24 < 16
      · have HL1 := Lib.hid (show seedS d b = ⟨d.led, seedN d.seed b.draw, d.start, d.lock, d.len⟩ by unfold seedS; rw [if_pos hl])
        have HLD := Lib.hid (show decide (b.fro % 24 < 16) = true from decide_eq_true hl)
        rw [HLD.out]
        go_wp2_with (first
          | ((with_reducible refine at_slot 22 ?_); (refine arm_load (o := ⟨some 22, _, _, _, _, _⟩) rfl _ _ rfl D 32 rfl (u8s d.seed) ((show Has (dcs d) 32 (u8s d.seed) from d_seed KD.out (Has.refl _)).range rD0) (szH KD.out.seed) ?_))
          | ((with_reducible refine at_slot 25 ?_); (refine arm_load (o := ⟨some 25, _, _, _, _, _⟩) rfl _ _ rfl Y 66 rfl (u8s b.draw) ((show Has (bcs b) 66 (u8s b.draw) from b_draw KB.out (Has.refl _)).range rY0) (szH KB.out.draw) ?_)))
        refine (rseed_any d.seed b.draw _ KD.out.seed KB.out.draw (range_block HK.out (bel0.block _ hk1))).mono ?_
        rintro e2 y2 ⟨rfl, hB⟩
        have q1 := rD0.old hB; have q2 := rY0.old hB; have q3 := rR0.old hB
        have belq : Below w.heap.size w y2 := below_step bel0 bel0.size hB
        have LS := Lib.hid (show lay (dcs d) 32 (u8s (seedN d.seed b.draw)) = dcs d1 by rw [HD1.out, HL1.out]; exact lay_seed0 KD.out (seed_ok _ _))
        have GS := Lib.hid (show 32 + (u8s (seedN d.seed b.draw)).length ≤ (dcs d).length by rw [h_len (seed_ok _ _), dcs_len KD.out]; omega)
        have KSD := Lib.hid (seed_ok d.seed b.draw)
        generalize seedN d.seed b.draw = sd at LS GS KSD
        clear hB
        go_wp2_with (first
          | ((with_reducible refine arm_store (o := ⟨none, _, _, _, _, _⟩) rfl _ _ _ rfl D 32 rfl (u8s sd) rfl _ _ (q1) GS.out (u8s_one _) (szH KSD.out) ?_); intro u1 hu1 ou1 su1)
          | ((with_reducible refine at_slot 31 ?_); (refine arm_want (.int .i64 (m : Int)) 31 rfl (by kernel_rfl) (by rw [show (Value.int .i64 (m : Int)) = .int .i64 ((l.length : Int) - 1) by congr 1; have := HM.out; omega]; exact run_op_subI _ _ _ _ rfl _ _ rfl rfl (by simp [IntKind.wrap, IntKind.signed, IntKind.bits]; omega) _) ?_))
          | ((with_reducible refine at_slot 32 ?_); (refine arm_indexN (o := ⟨some 32, _, _, _, _, _⟩) rfl _ _ _ rfl 54 98 und_ents (by kernel_rfl) g go (l.length) cap rfl .i64 m rfl (by have := HM.out; omega) ?_))
          | ((with_reducible refine at_slot 34 ?_); (refine arm_want (.int .u32 (S : Int)) 34 rfl (by kernel_rfl) (run_op_load1 _ _ rfl (.int .u32) (by kernel_rfl) rfl ⟨g, go + m * 98, none⟩ rfl (.int .u32 (S : Int)) (by have h := cell_of (range_block rS.out ((below_only belq ou1 lD belq.size).block g hg)); rw [HBS.out] at h; exact h)) ?_))
          | ((with_reducible refine at_slot 36 ?_); (refine arm_want (.int .u32 (b.fro : Int)) 36 rfl (by kernel_rfl) (run_op_load1 _ _ rfl (.int .u32) (by kernel_rfl) rfl ⟨Y, 0, none⟩ rfl (.int .u32 (b.fro : Int)) ((q2.only ou1 hYD).cell (show Has _ 0 _ from b_fro (Has.refl (bcs b))).get)) ?_)))
        have rD1 := hu1.congr LS.out; have rY1 := q2.only ou1 hYD; have rR1 := q3.only ou1 hRD
        have bel1 : Below w.heap.size w u1 := below_only belq ou1 lD belq.size
        clear hu1 ou1 su1 q1 q2 q3 belq LS GS
        refine (CE.out _).mono ?_
        rintro e3 z3 ⟨rfl, rfl⟩
        go_wp2_with fail
        refine (CS.out _).mono ?_
        rintro e4 z4 ⟨rfl, rfl⟩
        by_cases he : E = T
        · have HNE := Lib.hid (show ((E : Int) == (T : Int)) = true by rw [he]; exact beq_self_eq_true _)
          have HST := Lib.hid (HSY.out he)
          by_cases hk0 : k = 0
          · by_cases hep : E = 0
            · skip
              have HK0 := Lib.hid (show (((k : Nat) : Int) == 0) = true by rw [hk0]; rfl)
              have HE0 := Lib.hid (show ((E : Int) == 0) = true by rw [hep]; rfl)
              have HG0 := Lib.hid (show decide ((0 : Int) < (E : Int)) = false by exact decide_eq_false (by omega))
              have HGK := Lib.hid (show decide ((0 : Int) < (k : Int)) = false by exact decide_eq_false (by omega))
              have HC3 := Lib.hid (show ¬ c3 l k b from fun x => by have := HEE.out; unfold c3 at x; omega)
              have HC2 := Lib.hid (show k = 0 ∧ b.fro / 24 = 0 from ⟨hk0, by rw [← HEE.out]; exact hep⟩)
              have HN0 := Lib.hid (show decide (0 < E) = false ∧ decide (0 < k) = false from ⟨decide_eq_false (by omega), decide_eq_false (by omega)⟩)
              clear hk0 hep he
              go_wp2_with (first
                | ((with_reducible refine at_slot 40 ?_); (refine arm_want (.bool false) 40 rfl (by kernel_rfl) (run_op_neqB _ _ .u32 (by kernel_rfl) _ _ rfl .u32 ((E : Int)) ((T : Int)) rfl rfl true HNE.out _) ?_))
                | ((with_reducible refine at_slot 42 ?_); (refine arm_want (.bool true) 42 rfl (by kernel_rfl) (run_op_eqlB _ _ .i64 (by kernel_rfl) _ _ rfl .i64 ((k : Int)) (0) rfl rfl true HK0.out _) ?_))
                | ((with_reducible refine at_slot 45 ?_); (refine arm_want (.int .u32 (b.fro : Int)) 45 rfl (by kernel_rfl) (run_op_load1 _ _ rfl (.int .u32) (by kernel_rfl) rfl ⟨Y, 0, none⟩ rfl (.int .u32 (b.fro : Int)) ((rY1).cell (show Has _ 0 _ from b_fro (Has.refl (bcs b))).get)) ?_)))
              refine (CE.out _).mono ?_
              rintro e5 z5 ⟨rfl, rfl⟩
              have L2 := Lib.hid (show (dcs d1).set 128 (.int .u32 1) = dcs d2 by rw [HD2.out]; unfold s2; rw [if_pos HC2.out]; exact set_len0 KD1.out 1)
              have G2 := Lib.hid (show 128 < (dcs d1).length by rw [dcs_len KD1.out]; omega)
              go_wp2_with (first
                | ((with_reducible refine at_slot 47 ?_); (refine arm_want (.bool true) 47 rfl (by kernel_rfl) (run_op_eqlB _ _ .u32 (by kernel_rfl) _ _ rfl .u32 ((E : Int)) (0) rfl rfl true HE0.out _) ?_))
                | ((with_reducible refine arm_store1 (o := ⟨none, _, _, _, _, _⟩) rfl _ _ _ rfl D 128 rfl .u32 (1) rfl (by kernel_rfl) _ _ (rD1) G2.out ?_); intro u2 hu2 ou2 su2))
              have rD2 := hu2.congr L2.out; have rY2 := rY1.only ou2 hYD; have rR2 := rR1.only ou2 hRD
              have bel2 : Below w.heap.size w u2 := below_only bel1 ou2 lD bel1.size
              clear hu2 ou2 su2 L2 G2 rD1 rY1 rR1 bel1
              skip
              have rYx := rY2; have rDx := rD2; have rRx := rR2; have belx := bel2
              clear rY2 rD2 rR2 bel2
              refine wp_region_held (S := fun w' => Row w' Y 54 (bcs b)) (by kernel_rfl) ?_
              change wpAnyH _ _ _ _ _ _ _ _ u2.drew
              have rDz : Row u2.drew D 35 (dcs d2) := rDx
              have rYz : Row u2.drew Y 54 (bcs b) := rYx
              have rRz : Row u2.drew R 35 (dcs zd) := rRx
              have bz : Below w.heap.size w u2.drew := belx.drew
              generalize u2.drew = wz at rDz rYz rRz bz ⊢
              have hS : (fun w' => Row w' Y 54 (bcs b)) wz := rYz
              refine h_take 0 (.int .i64 (k : Int)) rfl 50 rfl (by kernel_rfl) (by kernel_rfl) (by kernel_rfl) (by kernel_rfl) (fun _ _ _ h => h) (fun w' _ => by kernel_rfl) hS ?_
              simp only [Act.put, List.setIfInBounds_toArray, List.set_cons_zero, List.set_cons_succ]
              refine h_take 1 (.bool true) rfl 51 rfl (by kernel_rfl) (by kernel_rfl) (by kernel_rfl) (by kernel_rfl) (fun _ _ _ h => h) (fun w' _ => run_op_eqlB _ _ .i64 (by kernel_rfl) _ _ rfl .i64 (k : Int) 0 rfl rfl true HK0.out w') hS ?_
              simp only [Act.put, List.setIfInBounds_toArray, List.set_cons_zero, List.set_cons_succ]
              refine h_take 2 (.bool true) rfl 52 rfl (by kernel_rfl) (by kernel_rfl) (by kernel_rfl) (by kernel_rfl) (fun _ _ _ h => h) (fun w' _ => by kernel_rfl) hS ?_
              simp only [Act.put, List.setIfInBounds_toArray, List.set_cons_zero, List.set_cons_succ]
              refine h_take 3 (.pointer (some ⟨Y, 0, none⟩)) rfl 53 rfl (by kernel_rfl) (by kernel_rfl) (by kernel_rfl) (by kernel_rfl) (fun _ _ _ h => h) (fun w' _ => by kernel_rfl) hS ?_
              simp only [Act.put, List.setIfInBounds_toArray, List.set_cons_zero, List.set_cons_succ]
              refine h_take 4 (.int .u32 (b.fro : Int)) rfl 54 rfl (by kernel_rfl) (by kernel_rfl) (by kernel_rfl) (by kernel_rfl) (fun _ _ _ h => h) (fun w' h => run_op_load1 _ _ rfl (.int .u32) (by kernel_rfl) rfl ⟨Y, 0, none⟩ rfl (.int .u32 (b.fro : Int)) (h.cell (show Has _ 0 _ from b_fro (Has.refl (bcs b))).get)) hS ?_
              simp only [Act.put, List.setIfInBounds_toArray, List.set_cons_zero, List.set_cons_succ]
              refine h_one (i := 5) (by kernel_rfl) (o_call rfl 55 rfl (by kernel_rfl) (run_op_call 14 _ _ rfl #[.int .u32 (b.fro : Int)] (by simp only [List.map_toArray, List.map_cons, List.map_nil]; rfl) Tryd.func14 (by kernel_rfl) (by kernel_rfl) _) (CE.out _) ?_)
              rintro e9 y9 ⟨rfl, rfl⟩
              refine ⟨_, rfl, rYz, ?_⟩
              simp only [Act.put, List.setIfInBounds_toArray, List.set_cons_zero, List.set_cons_succ]
              refine h_take 6 (.bool false) rfl 56 rfl (by kernel_rfl) (by kernel_rfl) (by kernel_rfl) (by kernel_rfl) (fun _ _ _ h => h) (fun w' _ => run_op_gtrB _ _ _ _ rfl .u32 (E : Int) 0 rfl rfl false HG0.out w') rYz ?_
              simp only [Act.put, List.setIfInBounds_toArray, List.set_cons_zero, List.set_cons_succ]
              refine h_take 7 (.bool false) rfl 57 rfl (by kernel_rfl) (by kernel_rfl) (by kernel_rfl) (by kernel_rfl) (fun _ _ _ h => h) (fun w' _ => by kernel_rfl) rYz ?_
              simp only [Act.put, List.setIfInBounds_toArray, List.set_cons_zero, List.set_cons_succ]
              refine h_take 8 (.bool false) rfl 58 rfl (by kernel_rfl) (by kernel_rfl) (by kernel_rfl) (by kernel_rfl) (fun _ _ _ h => h) (fun w' _ => by kernel_rfl) rYz ?_
              simp only [Act.put, List.setIfInBounds_toArray, List.set_cons_zero, List.set_cons_succ]
              refine h_take 9 (.int .i64 (k : Int)) rfl 59 rfl (by kernel_rfl) (by kernel_rfl) (by kernel_rfl) (by kernel_rfl) (fun _ _ _ h => h) (fun w' _ => by kernel_rfl) rYz ?_
              simp only [Act.put, List.setIfInBounds_toArray, List.set_cons_zero, List.set_cons_succ]
              refine h_take 10 (.bool false) rfl 60 rfl (by kernel_rfl) (by kernel_rfl) (by kernel_rfl) (by kernel_rfl) (fun _ _ _ h => h) (fun w' _ => run_op_gtrB _ _ _ _ rfl .i64 (k : Int) 0 rfl rfl false HGK.out w') rYz ?_
              simp only [Act.put, List.setIfInBounds_toArray, List.set_cons_zero, List.set_cons_succ]
              refine h_take 11 (.bool false) rfl 61 rfl (by kernel_rfl) (by kernel_rfl) (by kernel_rfl) (by kernel_rfl) (fun _ _ _ h => h) (fun w' _ => by kernel_rfl) rYz ?_
              simp only [Act.put, List.setIfInBounds_toArray, List.set_cons_zero, List.set_cons_succ]
              refine h_pass 12 rfl 62 rfl (by kernel_rfl) (by kernel_rfl) (by kernel_rfl) (by kernel_rfl) (fun _ _ _ h => h) rYz ?_
              simp only [Act.put, List.setIfInBounds_toArray, List.set_cons_zero, List.set_cons_succ]
              refine h_pass 13 rfl 63 rfl (by kernel_rfl) (by kernel_rfl) (by kernel_rfl) (by kernel_rfl) (fun _ _ _ h => h) rYz ?_
              simp only [Act.put, List.setIfInBounds_toArray, List.set_cons_zero, List.set_cons_succ]
              refine h_pass 14 rfl 64 rfl (by kernel_rfl) (by kernel_rfl) (by kernel_rfl) (by kernel_rfl) (fun _ _ _ h => h) rYz ?_
              simp only [Act.put, List.setIfInBounds_toArray, List.set_cons_zero, List.set_cons_succ]
              refine h_pass 15 rfl 65 rfl (by kernel_rfl) (by kernel_rfl) (by kernel_rfl) (by kernel_rfl) (fun _ _ _ h => h) rYz ?_
              simp only [Act.put, List.setIfInBounds_toArray, List.set_cons_zero, List.set_cons_succ]
              refine h_pass 16 rfl 66 rfl (by kernel_rfl) (by kernel_rfl) (by kernel_rfl) (by kernel_rfl) (fun _ _ _ h => h) rYz ?_
              simp only [Act.put, List.setIfInBounds_toArray, List.set_cons_zero, List.set_cons_succ]
              refine h_pass 17 rfl 67 rfl (by kernel_rfl) (by kernel_rfl) (by kernel_rfl) (by kernel_rfl) (fun _ _ _ h => h) rYz ?_
              simp only [Act.put, List.setIfInBounds_toArray, List.set_cons_zero, List.set_cons_succ]
              refine h_pass 18 rfl 68 rfl (by kernel_rfl) (by kernel_rfl) (by kernel_rfl) (by kernel_rfl) (fun _ _ _ h => h) rYz ?_
              simp only [Act.put, List.setIfInBounds_toArray, List.set_cons_zero, List.set_cons_succ]
              refine h_pass 19 rfl 69 rfl (by kernel_rfl) (by kernel_rfl) (by kernel_rfl) (by kernel_rfl) (fun _ _ _ h => h) rYz ?_
              simp only [Act.put, List.setIfInBounds_toArray, List.set_cons_zero, List.set_cons_succ]
              refine h_pass 20 rfl 70 rfl (by kernel_rfl) (by kernel_rfl) (by kernel_rfl) (by kernel_rfl) (fun _ _ _ h => h) rYz ?_
              simp only [Act.put, List.setIfInBounds_toArray, List.set_cons_zero, List.set_cons_succ]
              refine h_pass 21 rfl 71 rfl (by kernel_rfl) (by kernel_rfl) (by kernel_rfl) (by kernel_rfl) (fun _ _ _ h => h) rYz ?_
              simp only [Act.put, List.setIfInBounds_toArray, List.set_cons_zero, List.set_cons_succ]
              refine h_pass 22 rfl 72 rfl (by kernel_rfl) (by kernel_rfl) (by kernel_rfl) (by kernel_rfl) (fun _ _ _ h => h) rYz ?_
              simp only [Act.put, List.setIfInBounds_toArray, List.set_cons_zero, List.set_cons_succ]
              refine h_take 23 (.bool false) rfl 73 rfl (by kernel_rfl) (by kernel_rfl) (by kernel_rfl) (by kernel_rfl) (fun _ _ _ h => h) (fun w' _ => by kernel_rfl) rYz ?_
              simp only [Act.put, List.setIfInBounds_toArray, List.set_cons_zero, List.set_cons_succ]
              refine h_take 24 (.bool false) rfl 74 rfl (by kernel_rfl) (by kernel_rfl) (by kernel_rfl) (by kernel_rfl) (fun _ _ _ h => h) (fun w' _ => by kernel_rfl) rYz ?_
              simp only [Act.put, List.setIfInBounds_toArray, List.set_cons_zero, List.set_cons_succ]
              refine wpAnyH_done (by kernel_rfl) ?_ _
              have rD3 := rDz; have rY3 := rYz; have rR3 := rRz; have bel3 := bz
              clear hS rDz rYz rRz bz rDx rYx rRx belx
              have E3 := Lib.hid (show d2 = d3 by rw [HD3.out]; unfold s3; rw [if_neg HC3.out])
              have L4 := Lib.hid (show (dcs d3).set 128 (.int .u32 ((d3.len + 1 : Nat) : Int)) = dcs d4 by rw [HD4.out]; exact set_len0 KD3.out _)
              have G4 := Lib.hid (show 128 < (dcs d3).length by rw [dcs_len KD3.out]; omega)
              go_wp2_with (first
                | ((with_reducible refine at_slot 85 ?_); (refine arm_want (.int .u32 (d3.len : Int)) 85 rfl (by kernel_rfl) (run_op_load1 _ _ rfl (.int .u32) (by kernel_rfl) rfl ⟨D, 128, none⟩ rfl (.int .u32 (d3.len : Int)) ((rD3.congr (by rw [E3.out])).cell (show Has _ 128 _ from d_len KD3.out (Has.refl (dcs d3))).get)) ?_))
                | ((with_reducible refine at_slot 86 ?_); (refine arm_want (.int .u32 ((d3.len + 1 : Nat) : Int)) 86 rfl (by kernel_rfl) (by rw [show (Value.int .u32 ((d3.len + 1 : Nat) : Int)) = .int .u32 (((d3.len : Int) + 1) % 4294967296) by congr 1; have := HN3.out; omega]; exact run_op_addU _ _ _ _ rfl _ _ rfl rfl _) ?_))
                | ((with_reducible refine arm_store1 (o := ⟨none, _, _, _, _, _⟩) rfl _ _ _ rfl D 128 rfl .u32 (((d3.len + 1 : Nat) : Int)) rfl (by kernel_rfl) _ _ (rD3.congr (by rw [E3.out])) G4.out ?_); intro u5 hu5 ou5 su5)
                | ((with_reducible refine at_slot 89 ?_); (refine arm_want (.int .u32 (b.fro : Int)) 89 rfl (by kernel_rfl) (run_op_load1 _ _ rfl (.int .u32) (by kernel_rfl) rfl ⟨Y, 0, none⟩ rfl (.int .u32 (b.fro : Int)) (((rY3).only ou5 hYD).cell (show Has _ 0 _ from b_fro (Has.refl (bcs b))).get)) ?_)))
              have rD5 := hu5.congr L4.out; have rY5 := (rY3).only ou5 hYD; have rR5 := (rR3).only ou5 hRD
              have bel5 : Below w.heap.size w u5 := below_only bel3 ou5 lD bel3.size
              clear hu5 ou5 su5 rD3 rY3 rR3 bel3 L4 G4 E3
              refine (Slot.rlocking_nat b.fro _ KB.out.fro).mono ?_
              rintro e6 z6 ⟨rfl, rfl⟩
              rw [HLD.out]
              have L5 := Lib.hid (show lay (dcs d4) 96 (u8s b.prev) = dcs d5 by rw [HD5.out]; unfold s4; rw [if_pos hl]; exact lay_lock0 KD4.out KB.out.prev)
              have G5 := Lib.hid (show 96 + (u8s b.prev).length ≤ (dcs d4).length by rw [h_len KB.out.prev, dcs_len KD4.out]; omega)
              go_wp2_with (first
                | ((with_reducible refine at_slot 93 ?_); (refine arm_load (o := ⟨some 93, _, _, _, _, _⟩) rfl _ _ rfl Y 2 rfl (u8s b.prev) ((show Has (bcs b) 2 (u8s b.prev) from b_prev (Has.refl _)).range rY5) (szH KB.out.prev) ?_))
                | ((with_reducible refine arm_store (o := ⟨none, _, _, _, _, _⟩) rfl _ _ _ rfl D 96 rfl (u8s b.prev) rfl _ _ (rD5) G5.out (u8s_one _) (szH KB.out.prev) ?_); intro u6 hu6 ou6 su6))
              have rD6 := hu6.congr L5.out; have rR6 := rR5.only ou6 hRD
              have bel6 : Below w.heap.size w u6 := below_only bel5 ou6 lD bel5.size
              go_roundw
              case rel => exact ⟨⟨k + 1, by omega, by go_num, by rw [HST.out]; exact rD6, rR6⟩, bel6⟩
              case measure => simp [intOf]; omega
            · skip
              have HK0 := Lib.hid (show (((k : Nat) : Int) == 0) = true by rw [hk0]; rfl)
              have HE0 := Lib.hid (show ((E : Int) == 0) = false by exact beq_eq_false_iff_ne.2 (by omega))
              have HG0 := Lib.hid (show decide ((0 : Int) < (E : Int)) = true by exact decide_eq_true (by omega))
              have HGK := Lib.hid (show decide ((0 : Int) < (k : Int)) = false by exact decide_eq_false (by omega))
              have HC3 := Lib.hid (show c3 l k b from .inl ⟨hk0, by have := HEE.out; omega⟩)
              have HC2 := Lib.hid (show ¬ (k = 0 ∧ b.fro / 24 = 0) by have := HEE.out; omega)
              have HN0 := Lib.hid (show decide (0 < E) = true ∧ decide (0 < k) = false from ⟨decide_eq_true (by omega), decide_eq_false (by omega)⟩)
              clear hk0 hep he
              go_wp2_with (first
                | ((with_reducible refine at_slot 40 ?_); (refine arm_want (.bool false) 40 rfl (by kernel_rfl) (run_op_neqB _ _ .u32 (by kernel_rfl) _ _ rfl .u32 ((E : Int)) ((T : Int)) rfl rfl true HNE.out _) ?_))
                | ((with_reducible refine at_slot 42 ?_); (refine arm_want (.bool true) 42 rfl (by kernel_rfl) (run_op_eqlB _ _ .i64 (by kernel_rfl) _ _ rfl .i64 ((k : Int)) (0) rfl rfl true HK0.out _) ?_))
                | ((with_reducible refine at_slot 45 ?_); (refine arm_want (.int .u32 (b.fro : Int)) 45 rfl (by kernel_rfl) (run_op_load1 _ _ rfl (.int .u32) (by kernel_rfl) rfl ⟨Y, 0, none⟩ rfl (.int .u32 (b.fro : Int)) ((rY1).cell (show Has _ 0 _ from b_fro (Has.refl (bcs b))).get)) ?_)))
              refine (CE.out _).mono ?_
              rintro e5 z5 ⟨rfl, rfl⟩
              go_wp2_with (first
                | ((with_reducible refine at_slot 47 ?_); (refine arm_want (.bool false) 47 rfl (by kernel_rfl) (run_op_eqlB _ _ .u32 (by kernel_rfl) _ _ rfl .u32 ((E : Int)) (0) rfl rfl false HE0.out _) ?_)))
              have rD2 := rD1.congr (show dcs d1 = dcs d2 by rw [HD2.out]; unfold s2; rw [if_neg HC2.out]); have rY2 := rY1; have rR2 := rR1; have bel2 := bel1
              clear rD1 rY1 rR1 bel1
              skip
              have rYx := rY2; have rDx := rD2; have rRx := rR2; have belx := bel2
              clear rY2 rD2 rR2 bel2
              have cq0 : u1.cell? ⟨Y, 0, none⟩ = some (.int .u32 (b.fro : Int)) := rYx.cell (show Has (bcs b) 0 [num32 b.fro] from b_fro (Has.refl (bcs b))).get
              have cq1 := HK0.out; have cq2 := HG0.out; have cq3 := HGK.out
              have cq4 : decide (0 < E) = true := HN0.out.1; have cq5 : decide (0 < k) = false := HN0.out.2
              go_quiet (first | (go_at_call 14; exact Calls.quiet_of_same ((CE.out _).mono fun _ _ h => ⟨h.1, h.2.symm⟩)))
              clear cq0 cq1 cq2 cq3 cq4 cq5
              have rD3 : Row (u1.drewN nq) D 35 (dcs d2) := rDx.drewN; have rY3 : Row (u1.drewN nq) Y 54 (bcs b) := rYx.drewN; have rR3 : Row (u1.drewN nq) R 35 (dcs zd) := rRx.drewN
              have bel3 : Below w.heap.size w (u1.drewN nq) := below_step belx belx.size (below_drewN _ _ _)
              clear rDx rYx rRx belx
              have B3 := Lib.hid (show Tryd.prog.built 35 [(0, .agg (u8s b.led).toArray), (1, .agg (u8s d2.seed).toArray), (2, .agg (u8s b.prev).toArray)] = some (dcs d3).toArray by rw [HD3.out]; unfold s3; rw [if_pos HC3.out]; exact built_rdat3 KB.out.led KD2.out.seed KB.out.prev)
              have L3 := Lib.hid (lay_dat0 KD2.out KD3.out)
              have G3 := Lib.hid (show 0 + (dcs d3).length ≤ (dcs d2).length by rw [dcs_len KD2.out, dcs_len KD3.out]; omega)
              have L4 := Lib.hid (show (dcs d3).set 128 (.int .u32 ((d3.len + 1 : Nat) : Int)) = dcs d4 by rw [HD4.out]; exact set_len0 KD3.out _)
              have G4 := Lib.hid (show 128 < (dcs d3).length by rw [dcs_len KD3.out]; omega)
              go_wp2_with (first
                | ((with_reducible refine at_slot 77 ?_); (refine arm_load (o := ⟨some 77, _, _, _, _, _⟩) rfl _ _ rfl Y 34 rfl (u8s b.led) ((show Has (bcs b) 34 (u8s b.led) from b_led KB.out (Has.refl _)).range rY3) (szH KB.out.led) ?_))
                | ((with_reducible refine at_slot 79 ?_); (refine arm_load (o := ⟨some 79, _, _, _, _, _⟩) rfl _ _ rfl D 32 rfl (u8s d2.seed) ((show Has (dcs d2) 32 (u8s d2.seed) from d_seed KD2.out (Has.refl _)).range rD3) (szH KD2.out.seed) ?_))
                | ((with_reducible refine at_slot 82 ?_); (refine arm_load (o := ⟨some 82, _, _, _, _, _⟩) rfl _ _ rfl Y 2 rfl (u8s b.prev) ((show Has (bcs b) 2 (u8s b.prev) from b_prev (Has.refl _)).range rY3) (szH KB.out.prev) ?_))
                | ((with_reducible refine at_slot 83 ?_); (refine arm_build (o := ⟨some 83, _, _, _, _, _⟩) rfl _ _ rfl (dcs d3) (by simp only [List.map_toArray, List.map_cons, List.map_nil]; exact B3.out) ?_))
                | ((with_reducible refine arm_store (o := ⟨none, _, _, _, _, _⟩) rfl _ _ _ rfl D 0 rfl (dcs d3) rfl _ _ (rD3) G3.out (dcs_one _) (sz_rdat KD3.out) ?_); intro u4 hu4 ou4 su4)
                | ((with_reducible refine at_slot 85 ?_); (refine arm_want (.int .u32 (d3.len : Int)) 85 rfl (by kernel_rfl) (run_op_load1 _ _ rfl (.int .u32) (by kernel_rfl) rfl ⟨D, 128, none⟩ rfl (.int .u32 (d3.len : Int)) ((hu4.congr L3.out).cell (show Has _ 128 _ from d_len KD3.out (Has.refl (dcs d3))).get)) ?_))
                | ((with_reducible refine at_slot 86 ?_); (refine arm_want (.int .u32 ((d3.len + 1 : Nat) : Int)) 86 rfl (by kernel_rfl) (by rw [show (Value.int .u32 ((d3.len + 1 : Nat) : Int)) = .int .u32 (((d3.len : Int) + 1) % 4294967296) by congr 1; have := HN3.out; omega]; exact run_op_addU _ _ _ _ rfl _ _ rfl rfl _) ?_))
                | ((with_reducible refine arm_store1 (o := ⟨none, _, _, _, _, _⟩) rfl _ _ _ rfl D 128 rfl .u32 (((d3.len + 1 : Nat) : Int)) rfl (by kernel_rfl) _ _ (hu4.congr L3.out) G4.out ?_); intro u5 hu5 ou5 su5)
                | ((with_reducible refine at_slot 89 ?_); (refine arm_want (.int .u32 (b.fro : Int)) 89 rfl (by kernel_rfl) (run_op_load1 _ _ rfl (.int .u32) (by kernel_rfl) rfl ⟨Y, 0, none⟩ rfl (.int .u32 (b.fro : Int)) (((rY3.only ou4 hYD).only ou5 hYD).cell (show Has _ 0 _ from b_fro (Has.refl (bcs b))).get)) ?_)))
              have rD5 := hu5.congr L4.out; have rY5 := (rY3.only ou4 hYD).only ou5 hYD; have rR5 := (rR3.only ou4 hRD).only ou5 hRD
              have bel5 : Below w.heap.size w u5 := below_only (below_only bel3 ou4 lD bel3.size) ou5 lD (below_only bel3 ou4 lD bel3.size).size
              clear hu5 ou5 su5 rD3 rY3 rR3 bel3 L4 G4 hu4 ou4 su4 B3 L3 G3
              refine (Slot.rlocking_nat b.fro _ KB.out.fro).mono ?_
              rintro e6 z6 ⟨rfl, rfl⟩
              rw [HLD.out]
              have L5 := Lib.hid (show lay (dcs d4) 96 (u8s b.prev) = dcs d5 by rw [HD5.out]; unfold s4; rw [if_pos hl]; exact lay_lock0 KD4.out KB.out.prev)
              have G5 := Lib.hid (show 96 + (u8s b.prev).length ≤ (dcs d4).length by rw [h_len KB.out.prev, dcs_len KD4.out]; omega)
              go_wp2_with (first
                | ((with_reducible refine at_slot 93 ?_); (refine arm_load (o := ⟨some 93, _, _, _, _, _⟩) rfl _ _ rfl Y 2 rfl (u8s b.prev) ((show Has (bcs b) 2 (u8s b.prev) from b_prev (Has.refl _)).range rY5) (szH KB.out.prev) ?_))
                | ((with_reducible refine arm_store (o := ⟨none, _, _, _, _, _⟩) rfl _ _ _ rfl D 96 rfl (u8s b.prev) rfl _ _ (rD5) G5.out (u8s_one _) (szH KB.out.prev) ?_); intro u6 hu6 ou6 su6))
              have rD6 := hu6.congr L5.out; have rR6 := rR5.only ou6 hRD
              have bel6 : Below w.heap.size w u6 := below_only bel5 ou6 lD bel5.size
              go_roundw
              case rel => exact ⟨⟨k + 1, by omega, by go_num, by rw [HST.out]; exact rD6, rR6⟩, bel6⟩
              case measure => simp [intOf]; omega
          · obtain ⟨j, hj⟩ : ∃ j, j + 1 = k := ⟨k - 1, by omega⟩
            obtain ⟨pv, hpv, kj, hrj⟩ := HJ.out j hj
            have KJ := Lib.hid kj; have rJ := Lib.hid hrj
            clear kj hrj
            by_cases htu : pv.fro / 24 < E
            · skip
              have HK0 := Lib.hid (show (((k : Nat) : Int) == 0) = false by exact beq_eq_false_iff_ne.2 (by omega))
              have HGK := Lib.hid (show decide ((0 : Int) < (k : Int)) = true by exact decide_eq_true (by omega))
              have HLS := Lib.hid (show decide (((pv.fro / 24 : Nat) : Int) < (E : Int)) = true by exact decide_eq_true (by omega))
              have HJK := Lib.hid (show (k : Int) - 1 = (j : Int) ∧ j < l.length by omega)
              have HC3 := Lib.hid (show c3 l k b from .inr ⟨by omega, by rw [hpv]; have := HEE.out; omega⟩)
              have HC2 := Lib.hid (show ¬ (k = 0 ∧ b.fro / 24 = 0) by have := HEE.out; omega)
              clear hk0 hj hpv htu he
              go_wp2_with (first
                | ((with_reducible refine at_slot 40 ?_); (refine arm_want (.bool false) 40 rfl (by kernel_rfl) (run_op_neqB _ _ .u32 (by kernel_rfl) _ _ rfl .u32 ((E : Int)) ((T : Int)) rfl rfl true HNE.out _) ?_))
                | ((with_reducible refine at_slot 42 ?_); (refine arm_want (.bool false) 42 rfl (by kernel_rfl) (run_op_eqlB _ _ .i64 (by kernel_rfl) _ _ rfl .i64 ((k : Int)) (0) rfl rfl false HK0.out _) ?_)))
              have rD2 := rD1.congr (show dcs d1 = dcs d2 by rw [HD2.out]; unfold s2; rw [if_neg HC2.out]); have rY2 := rY1; have rR2 := rR1; have bel2 := bel1
              clear rD1 rY1 rR1 bel1
              skip
              have rYx := rY2; have rDx := rD2; have rRx := rR2; have belx := bel2
              clear rY2 rD2 rR2 bel2
              refine wp_region_quiet (C := fun w' => Below u1.heap.size u1 w') (by kernel_rfl) (by kernel_rfl) ((Below.refl _ _).drew) ?_
              rw [List.toList_toArray]
              refine q_value 50 rfl (.int .i64 (k : Int)) (by kernel_rfl) (fun w' _ => by kernel_rfl) ?_
              simp only [Act.put, List.setIfInBounds_toArray, List.set_cons_zero, List.set_cons_succ]
              refine q_value 51 rfl (.bool false) (by kernel_rfl) (fun w' _ => run_op_eqlB _ _ .i64 (by kernel_rfl) _ _ rfl .i64 (k : Int) 0 rfl rfl false HK0.out w') ?_
              simp only [Act.put, List.setIfInBounds_toArray, List.set_cons_zero, List.set_cons_succ]
              refine q_value 52 rfl (.bool false) (by kernel_rfl) (fun w' _ => by kernel_rfl) ?_
              simp only [Act.put, List.setIfInBounds_toArray, List.set_cons_zero, List.set_cons_succ]
              refine BigFrame.wpQuiet_skip (by kernel_rfl) ?_
              simp only [Act.put, List.setIfInBounds_toArray, List.set_cons_zero, List.set_cons_succ]
              refine BigFrame.wpQuiet_skip (by kernel_rfl) ?_
              simp only [Act.put, List.setIfInBounds_toArray, List.set_cons_zero, List.set_cons_succ]
              refine BigFrame.wpQuiet_skip (by kernel_rfl) ?_
              simp only [Act.put, List.setIfInBounds_toArray, List.set_cons_zero, List.set_cons_succ]
              refine BigFrame.wpQuiet_skip (by kernel_rfl) ?_
              simp only [Act.put, List.setIfInBounds_toArray, List.set_cons_zero, List.set_cons_succ]
              refine q_value 57 rfl (.bool false) (by kernel_rfl) (fun w' _ => by kernel_rfl) ?_
              simp only [Act.put, List.setIfInBounds_toArray, List.set_cons_zero, List.set_cons_succ]
              refine q_value 58 rfl (.bool false) (by kernel_rfl) (fun w' _ => by kernel_rfl) ?_
              simp only [Act.put, List.setIfInBounds_toArray, List.set_cons_zero, List.set_cons_succ]
              refine q_value 59 rfl (.int .i64 (k : Int)) (by kernel_rfl) (fun w' _ => by kernel_rfl) ?_
              simp only [Act.put, List.setIfInBounds_toArray, List.set_cons_zero, List.set_cons_succ]
              refine q_value 60 rfl (.bool true) (by kernel_rfl) (fun w' _ => run_op_gtrB _ _ _ _ rfl .i64 (k : Int) 0 rfl rfl true HGK.out w') ?_
              simp only [Act.put, List.setIfInBounds_toArray, List.set_cons_zero, List.set_cons_succ]
              refine q_value 61 rfl (.bool true) (by kernel_rfl) (fun w' _ => by kernel_rfl) ?_
              simp only [Act.put, List.setIfInBounds_toArray, List.set_cons_zero, List.set_cons_succ]
              refine q_value 62 rfl (.slice (some ⟨g, go, none⟩) l.length cap) (by kernel_rfl) (fun w' _ => by kernel_rfl) ?_
              simp only [Act.put, List.setIfInBounds_toArray, List.set_cons_zero, List.set_cons_succ]
              refine q_value 63 rfl (.int .i64 (k : Int)) (by kernel_rfl) (fun w' _ => by kernel_rfl) ?_
              simp only [Act.put, List.setIfInBounds_toArray, List.set_cons_zero, List.set_cons_succ]
              refine q_value 64 rfl (.int .i64 ((j : Nat) : Int)) (by kernel_rfl) (fun w' _ => by rw [show (Value.int .i64 (j : Int)) = .int .i64 ((k : Int) - 1) by rw [HJK.out.1]]; exact run_op_subI _ _ _ _ rfl _ _ rfl rfl (by have := HJK.out; simp [IntKind.wrap, IntKind.signed, IntKind.bits]; omega) w') ?_
              simp only [Act.put, List.setIfInBounds_toArray, List.set_cons_zero, List.set_cons_succ]
              refine q_value 65 rfl (.pointer (some ⟨g, go + j * 98, none⟩)) (by kernel_rfl) (fun w' _ => run_op_indexN _ _ _ rfl 54 98 und_ents (by kernel_rfl) g go l.length cap rfl .i64 j rfl HJK.out.2 w') ?_
              simp only [Act.put, List.setIfInBounds_toArray, List.set_cons_zero, List.set_cons_succ]
              refine q_value 66 rfl (.pointer (some ⟨g, go + j * 98, none⟩)) (by kernel_rfl) (fun w' _ => by kernel_rfl) ?_
              simp only [Act.put, List.setIfInBounds_toArray, List.set_cons_zero, List.set_cons_succ]
              refine q_value 67 rfl (.int .u32 (pv.fro : Int)) (by kernel_rfl) (fun w' hC => run_op_load1 _ _ rfl (.int .u32) (by kernel_rfl) rfl ⟨g, go + j * 98, none⟩ rfl (.int .u32 (pv.fro : Int)) (cell_of (range_block rJ.out ((below_step belx belx.size hC).block g hg)))) ?_
              simp only [Act.put, List.setIfInBounds_toArray, List.set_cons_zero, List.set_cons_succ]
              refine q_call 68 rfl (.int .u32 ((pv.fro / 24 : Nat) : Int)) 14 #[.int .u32 (pv.fro : Int)] (by kernel_rfl) (fun w' _ => run_op_call _ _ _ rfl _ (by simp only [List.map_toArray, List.map_cons, List.map_nil]; rfl) Tryd.func14 (by kernel_rfl) (by kernel_rfl) w') (fun w' hC => (Slot.repoch_nat pv.fro w' KJ.out.fro).mono fun e w'' h => ⟨h.1, h.2 ▸ hC⟩) ?_
              simp only [Act.put, List.setIfInBounds_toArray, List.set_cons_zero, List.set_cons_succ]
              refine q_value 69 rfl (.pointer (some ⟨Y, 0, none⟩)) (by kernel_rfl) (fun w' _ => by kernel_rfl) ?_
              simp only [Act.put, List.setIfInBounds_toArray, List.set_cons_zero, List.set_cons_succ]
              refine q_value 70 rfl (.int .u32 (b.fro : Int)) (by kernel_rfl) (fun w' hC => run_op_load1 _ _ rfl (.int .u32) (by kernel_rfl) rfl ⟨Y, 0, none⟩ rfl (.int .u32 (b.fro : Int)) ((rYx.old hC).cell (show Has _ 0 _ from b_fro (Has.refl (bcs b))).get)) ?_
              simp only [Act.put, List.setIfInBounds_toArray, List.set_cons_zero, List.set_cons_succ]
              refine q_call 71 rfl (.int .u32 (E : Int)) 14 #[.int .u32 (b.fro : Int)] (by kernel_rfl) (fun w' _ => run_op_call _ _ _ rfl _ (by simp only [List.map_toArray, List.map_cons, List.map_nil]; rfl) Tryd.func14 (by kernel_rfl) (by kernel_rfl) w') (fun w' hC => (CE.out w').mono fun e w'' h => ⟨h.1, h.2 ▸ hC⟩) ?_
              simp only [Act.put, List.setIfInBounds_toArray, List.set_cons_zero, List.set_cons_succ]
              refine q_value 72 rfl (.bool true) (by kernel_rfl) (fun w' _ => run_op_lssB _ _ _ _ rfl .u32 ((pv.fro / 24 : Nat) : Int) (E : Int) rfl rfl true HLS.out w') ?_
              simp only [Act.put, List.setIfInBounds_toArray, List.set_cons_zero, List.set_cons_succ]
              refine q_value 73 rfl (.bool true) (by kernel_rfl) (fun w' _ => by kernel_rfl) ?_
              simp only [Act.put, List.setIfInBounds_toArray, List.set_cons_zero, List.set_cons_succ]
              refine q_value 74 rfl (.bool true) (by kernel_rfl) (fun w' _ => by kernel_rfl) ?_
              simp only [Act.put, List.setIfInBounds_toArray, List.set_cons_zero, List.set_cons_succ]
              refine wpQuiet_nil ?_
              intro u3 hC
              have rD3 := rDx.old hC; have rY3 := rYx.old hC; have rR3 := rRx.old hC
              have bel3 : Below w.heap.size w u3 := below_step belx belx.size hC
              clear hC rDx rYx rRx belx
              have B3 := Lib.hid (show Tryd.prog.built 35 [(0, .agg (u8s b.led).toArray), (1, .agg (u8s d2.seed).toArray), (2, .agg (u8s b.prev).toArray)] = some (dcs d3).toArray by rw [HD3.out]; unfold s3; rw [if_pos HC3.out]; exact built_rdat3 KB.out.led KD2.out.seed KB.out.prev)
              have L3 := Lib.hid (lay_dat0 KD2.out KD3.out)
              have G3 := Lib.hid (show 0 + (dcs d3).length ≤ (dcs d2).length by rw [dcs_len KD2.out, dcs_len KD3.out]; omega)
              have L4 := Lib.hid (show (dcs d3).set 128 (.int .u32 ((d3.len + 1 : Nat) : Int)) = dcs d4 by rw [HD4.out]; exact set_len0 KD3.out _)
              have G4 := Lib.hid (show 128 < (dcs d3).length by rw [dcs_len KD3.out]; omega)
              go_wp2_with (first
                | ((with_reducible refine at_slot 77 ?_); (refine arm_load (o := ⟨some 77, _, _, _, _, _⟩) rfl _ _ rfl Y 34 rfl (u8s b.led) ((show Has (bcs b) 34 (u8s b.led) from b_led KB.out (Has.refl _)).range rY3) (szH KB.out.led) ?_))
                | ((with_reducible refine at_slot 79 ?_); (refine arm_load (o := ⟨some 79, _, _, _, _, _⟩) rfl _ _ rfl D 32 rfl (u8s d2.seed) ((show Has (dcs d2) 32 (u8s d2.seed) from d_seed KD2.out (Has.refl _)).range rD3) (szH KD2.out.seed) ?_))
                | ((with_reducible refine at_slot 82 ?_); (refine arm_load (o := ⟨some 82, _, _, _, _, _⟩) rfl _ _ rfl Y 2 rfl (u8s b.prev) ((show Has (bcs b) 2 (u8s b.prev) from b_prev (Has.refl _)).range rY3) (szH KB.out.prev) ?_))
                | ((with_reducible refine at_slot 83 ?_); (refine arm_build (o := ⟨some 83, _, _, _, _, _⟩) rfl _ _ rfl (dcs d3) (by simp only [List.map_toArray, List.map_cons, List.map_nil]; exact B3.out) ?_))
                | ((with_reducible refine arm_store (o := ⟨none, _, _, _, _, _⟩) rfl _ _ _ rfl D 0 rfl (dcs d3) rfl _ _ (rD3) G3.out (dcs_one _) (sz_rdat KD3.out) ?_); intro u4 hu4 ou4 su4)
                | ((with_reducible refine at_slot 85 ?_); (refine arm_want (.int .u32 (d3.len : Int)) 85 rfl (by kernel_rfl) (run_op_load1 _ _ rfl (.int .u32) (by kernel_rfl) rfl ⟨D, 128, none⟩ rfl (.int .u32 (d3.len : Int)) ((hu4.congr L3.out).cell (show Has _ 128 _ from d_len KD3.out (Has.refl (dcs d3))).get)) ?_))
                | ((with_reducible refine at_slot 86 ?_); (refine arm_want (.int .u32 ((d3.len + 1 : Nat) : Int)) 86 rfl (by kernel_rfl) (by rw [show (Value.int .u32 ((d3.len + 1 : Nat) : Int)) = .int .u32 (((d3.len : Int) + 1) % 4294967296) by congr 1; have := HN3.out; omega]; exact run_op_addU _ _ _ _ rfl _ _ rfl rfl _) ?_))
                | ((with_reducible refine arm_store1 (o := ⟨none, _, _, _, _, _⟩) rfl _ _ _ rfl D 128 rfl .u32 (((d3.len + 1 : Nat) : Int)) rfl (by kernel_rfl) _ _ (hu4.congr L3.out) G4.out ?_); intro u5 hu5 ou5 su5)
                | ((with_reducible refine at_slot 89 ?_); (refine arm_want (.int .u32 (b.fro : Int)) 89 rfl (by kernel_rfl) (run_op_load1 _ _ rfl (.int .u32) (by kernel_rfl) rfl ⟨Y, 0, none⟩ rfl (.int .u32 (b.fro : Int)) (((rY3.only ou4 hYD).only ou5 hYD).cell (show Has _ 0 _ from b_fro (Has.refl (bcs b))).get)) ?_)))
              have rD5 := hu5.congr L4.out; have rY5 := (rY3.only ou4 hYD).only ou5 hYD; have rR5 := (rR3.only ou4 hRD).only ou5 hRD
              have bel5 : Below w.heap.size w u5 := below_only (below_only bel3 ou4 lD bel3.size) ou5 lD (below_only bel3 ou4 lD bel3.size).size
              clear hu5 ou5 su5 rD3 rY3 rR3 bel3 L4 G4 hu4 ou4 su4 B3 L3 G3
              refine (Slot.rlocking_nat b.fro _ KB.out.fro).mono ?_
              rintro e5 z5 ⟨rfl, rfl⟩
              rw [HLD.out]
              have L5 := Lib.hid (show lay (dcs d4) 96 (u8s b.prev) = dcs d5 by rw [HD5.out]; unfold s4; rw [if_pos hl]; exact lay_lock0 KD4.out KB.out.prev)
              have G5 := Lib.hid (show 96 + (u8s b.prev).length ≤ (dcs d4).length by rw [h_len KB.out.prev, dcs_len KD4.out]; omega)
              go_wp2_with (first
                | ((with_reducible refine at_slot 93 ?_); (refine arm_load (o := ⟨some 93, _, _, _, _, _⟩) rfl _ _ rfl Y 2 rfl (u8s b.prev) ((show Has (bcs b) 2 (u8s b.prev) from b_prev (Has.refl _)).range rY5) (szH KB.out.prev) ?_))
                | ((with_reducible refine arm_store (o := ⟨none, _, _, _, _, _⟩) rfl _ _ _ rfl D 96 rfl (u8s b.prev) rfl _ _ (rD5) G5.out (u8s_one _) (szH KB.out.prev) ?_); intro u6 hu6 ou6 su6))
              have rD6 := hu6.congr L5.out; have rR6 := rR5.only ou6 hRD
              have bel6 : Below w.heap.size w u6 := below_only bel5 ou6 lD bel5.size
              go_roundw
              case rel => exact ⟨⟨k + 1, by omega, by go_num, by rw [HST.out]; exact rD6, rR6⟩, bel6⟩
              case measure => simp [intOf]; omega
            · skip
              have HK0 := Lib.hid (show (((k : Nat) : Int) == 0) = false by exact beq_eq_false_iff_ne.2 (by omega))
              have HGK := Lib.hid (show decide ((0 : Int) < (k : Int)) = true by exact decide_eq_true (by omega))
              have HLS := Lib.hid (show decide (((pv.fro / 24 : Nat) : Int) < (E : Int)) = false by exact decide_eq_false (by omega))
              have HJK := Lib.hid (show (k : Int) - 1 = (j : Int) ∧ j < l.length by omega)
              have HC3 := Lib.hid (show ¬ c3 l k b from fun x => by have := HEE.out; unfold c3 at x; rw [hpv] at x; omega)
              have HC2 := Lib.hid (show ¬ (k = 0 ∧ b.fro / 24 = 0) by have := HEE.out; omega)
              clear hk0 hj hpv htu he
              go_wp2_with (first
                | ((with_reducible refine at_slot 40 ?_); (refine arm_want (.bool false) 40 rfl (by kernel_rfl) (run_op_neqB _ _ .u32 (by kernel_rfl) _ _ rfl .u32 ((E : Int)) ((T : Int)) rfl rfl true HNE.out _) ?_))
                | ((with_reducible refine at_slot 42 ?_); (refine arm_want (.bool false) 42 rfl (by kernel_rfl) (run_op_eqlB _ _ .i64 (by kernel_rfl) _ _ rfl .i64 ((k : Int)) (0) rfl rfl false HK0.out _) ?_)))
              have rD2 := rD1.congr (show dcs d1 = dcs d2 by rw [HD2.out]; unfold s2; rw [if_neg HC2.out]); have rY2 := rY1; have rR2 := rR1; have bel2 := bel1
              clear rD1 rY1 rR1 bel1
              skip
              have rYx := rY2; have rDx := rD2; have rRx := rR2; have belx := bel2
              clear rY2 rD2 rR2 bel2
              refine wp_region_quiet (C := fun w' => Below u1.heap.size u1 w') (by kernel_rfl) (by kernel_rfl) ((Below.refl _ _).drew) ?_
              rw [List.toList_toArray]
              refine q_value 50 rfl (.int .i64 (k : Int)) (by kernel_rfl) (fun w' _ => by kernel_rfl) ?_
              simp only [Act.put, List.setIfInBounds_toArray, List.set_cons_zero, List.set_cons_succ]
              refine q_value 51 rfl (.bool false) (by kernel_rfl) (fun w' _ => run_op_eqlB _ _ .i64 (by kernel_rfl) _ _ rfl .i64 (k : Int) 0 rfl rfl false HK0.out w') ?_
              simp only [Act.put, List.setIfInBounds_toArray, List.set_cons_zero, List.set_cons_succ]
              refine q_value 52 rfl (.bool false) (by kernel_rfl) (fun w' _ => by kernel_rfl) ?_
              simp only [Act.put, List.setIfInBounds_toArray, List.set_cons_zero, List.set_cons_succ]
              refine BigFrame.wpQuiet_skip (by kernel_rfl) ?_
              simp only [Act.put, List.setIfInBounds_toArray, List.set_cons_zero, List.set_cons_succ]
              refine BigFrame.wpQuiet_skip (by kernel_rfl) ?_
              simp only [Act.put, List.setIfInBounds_toArray, List.set_cons_zero, List.set_cons_succ]
              refine BigFrame.wpQuiet_skip (by kernel_rfl) ?_
              simp only [Act.put, List.setIfInBounds_toArray, List.set_cons_zero, List.set_cons_succ]
              refine BigFrame.wpQuiet_skip (by kernel_rfl) ?_
              simp only [Act.put, List.setIfInBounds_toArray, List.set_cons_zero, List.set_cons_succ]
              refine q_value 57 rfl (.bool false) (by kernel_rfl) (fun w' _ => by kernel_rfl) ?_
              simp only [Act.put, List.setIfInBounds_toArray, List.set_cons_zero, List.set_cons_succ]
              refine q_value 58 rfl (.bool false) (by kernel_rfl) (fun w' _ => by kernel_rfl) ?_
              simp only [Act.put, List.setIfInBounds_toArray, List.set_cons_zero, List.set_cons_succ]
              refine q_value 59 rfl (.int .i64 (k : Int)) (by kernel_rfl) (fun w' _ => by kernel_rfl) ?_
              simp only [Act.put, List.setIfInBounds_toArray, List.set_cons_zero, List.set_cons_succ]
              refine q_value 60 rfl (.bool true) (by kernel_rfl) (fun w' _ => run_op_gtrB _ _ _ _ rfl .i64 (k : Int) 0 rfl rfl true HGK.out w') ?_
              simp only [Act.put, List.setIfInBounds_toArray, List.set_cons_zero, List.set_cons_succ]
              refine q_value 61 rfl (.bool true) (by kernel_rfl) (fun w' _ => by kernel_rfl) ?_
              simp only [Act.put, List.setIfInBounds_toArray, List.set_cons_zero, List.set_cons_succ]
              refine q_value 62 rfl (.slice (some ⟨g, go, none⟩) l.length cap) (by kernel_rfl) (fun w' _ => by kernel_rfl) ?_
              simp only [Act.put, List.setIfInBounds_toArray, List.set_cons_zero, List.set_cons_succ]
              refine q_value 63 rfl (.int .i64 (k : Int)) (by kernel_rfl) (fun w' _ => by kernel_rfl) ?_
              simp only [Act.put, List.setIfInBounds_toArray, List.set_cons_zero, List.set_cons_succ]
              refine q_value 64 rfl (.int .i64 ((j : Nat) : Int)) (by kernel_rfl) (fun w' _ => by rw [show (Value.int .i64 (j : Int)) = .int .i64 ((k : Int) - 1) by rw [HJK.out.1]]; exact run_op_subI _ _ _ _ rfl _ _ rfl rfl (by have := HJK.out; simp [IntKind.wrap, IntKind.signed, IntKind.bits]; omega) w') ?_
              simp only [Act.put, List.setIfInBounds_toArray, List.set_cons_zero, List.set_cons_succ]
              refine q_value 65 rfl (.pointer (some ⟨g, go + j * 98, none⟩)) (by kernel_rfl) (fun w' _ => run_op_indexN _ _ _ rfl 54 98 und_ents (by kernel_rfl) g go l.length cap rfl .i64 j rfl HJK.out.2 w') ?_
              simp only [Act.put, List.setIfInBounds_toArray, List.set_cons_zero, List.set_cons_succ]
              refine q_value 66 rfl (.pointer (some ⟨g, go + j * 98, none⟩)) (by kernel_rfl) (fun w' _ => by kernel_rfl) ?_
              simp only [Act.put, List.setIfInBounds_toArray, List.set_cons_zero, List.set_cons_succ]
              refine q_value 67 rfl (.int .u32 (pv.fro : Int)) (by kernel_rfl) (fun w' hC => run_op_load1 _ _ rfl (.int .u32) (by kernel_rfl) rfl ⟨g, go + j * 98, none⟩ rfl (.int .u32 (pv.fro : Int)) (cell_of (range_block rJ.out ((below_step belx belx.size hC).block g hg)))) ?_
              simp only [Act.put, List.setIfInBounds_toArray, List.set_cons_zero, List.set_cons_succ]
              refine q_call 68 rfl (.int .u32 ((pv.fro / 24 : Nat) : Int)) 14 #[.int .u32 (pv.fro : Int)] (by kernel_rfl) (fun w' _ => run_op_call _ _ _ rfl _ (by simp only [List.map_toArray, List.map_cons, List.map_nil]; rfl) Tryd.func14 (by kernel_rfl) (by kernel_rfl) w') (fun w' hC => (Slot.repoch_nat pv.fro w' KJ.out.fro).mono fun e w'' h => ⟨h.1, h.2 ▸ hC⟩) ?_
              simp only [Act.put, List.setIfInBounds_toArray, List.set_cons_zero, List.set_cons_succ]
              refine q_value 69 rfl (.pointer (some ⟨Y, 0, none⟩)) (by kernel_rfl) (fun w' _ => by kernel_rfl) ?_
              simp only [Act.put, List.setIfInBounds_toArray, List.set_cons_zero, List.set_cons_succ]
              refine q_value 70 rfl (.int .u32 (b.fro : Int)) (by kernel_rfl) (fun w' hC => run_op_load1 _ _ rfl (.int .u32) (by kernel_rfl) rfl ⟨Y, 0, none⟩ rfl (.int .u32 (b.fro : Int)) ((rYx.old hC).cell (show Has _ 0 _ from b_fro (Has.refl (bcs b))).get)) ?_
              simp only [Act.put, List.setIfInBounds_toArray, List.set_cons_zero, List.set_cons_succ]
              refine q_call 71 rfl (.int .u32 (E : Int)) 14 #[.int .u32 (b.fro : Int)] (by kernel_rfl) (fun w' _ => run_op_call _ _ _ rfl _ (by simp only [List.map_toArray, List.map_cons, List.map_nil]; rfl) Tryd.func14 (by kernel_rfl) (by kernel_rfl) w') (fun w' hC => (CE.out w').mono fun e w'' h => ⟨h.1, h.2 ▸ hC⟩) ?_
              simp only [Act.put, List.setIfInBounds_toArray, List.set_cons_zero, List.set_cons_succ]
              refine q_value 72 rfl (.bool false) (by kernel_rfl) (fun w' _ => run_op_lssB _ _ _ _ rfl .u32 ((pv.fro / 24 : Nat) : Int) (E : Int) rfl rfl false HLS.out w') ?_
              simp only [Act.put, List.setIfInBounds_toArray, List.set_cons_zero, List.set_cons_succ]
              refine q_value 73 rfl (.bool false) (by kernel_rfl) (fun w' _ => by kernel_rfl) ?_
              simp only [Act.put, List.setIfInBounds_toArray, List.set_cons_zero, List.set_cons_succ]
              refine q_value 74 rfl (.bool false) (by kernel_rfl) (fun w' _ => by kernel_rfl) ?_
              simp only [Act.put, List.setIfInBounds_toArray, List.set_cons_zero, List.set_cons_succ]
              refine wpQuiet_nil ?_
              intro u3 hC
              have rD3 := rDx.old hC; have rY3 := rYx.old hC; have rR3 := rRx.old hC
              have bel3 : Below w.heap.size w u3 := below_step belx belx.size hC
              clear hC rDx rYx rRx belx
              have E3 := Lib.hid (show d2 = d3 by rw [HD3.out]; unfold s3; rw [if_neg HC3.out])
              have L4 := Lib.hid (show (dcs d3).set 128 (.int .u32 ((d3.len + 1 : Nat) : Int)) = dcs d4 by rw [HD4.out]; exact set_len0 KD3.out _)
              have G4 := Lib.hid (show 128 < (dcs d3).length by rw [dcs_len KD3.out]; omega)
              go_wp2_with (first
                | ((with_reducible refine at_slot 85 ?_); (refine arm_want (.int .u32 (d3.len : Int)) 85 rfl (by kernel_rfl) (run_op_load1 _ _ rfl (.int .u32) (by kernel_rfl) rfl ⟨D, 128, none⟩ rfl (.int .u32 (d3.len : Int)) ((rD3.congr (by rw [E3.out])).cell (show Has _ 128 _ from d_len KD3.out (Has.refl (dcs d3))).get)) ?_))
                | ((with_reducible refine at_slot 86 ?_); (refine arm_want (.int .u32 ((d3.len + 1 : Nat) : Int)) 86 rfl (by kernel_rfl) (by rw [show (Value.int .u32 ((d3.len + 1 : Nat) : Int)) = .int .u32 (((d3.len : Int) + 1) % 4294967296) by congr 1; have := HN3.out; omega]; exact run_op_addU _ _ _ _ rfl _ _ rfl rfl _) ?_))
                | ((with_reducible refine arm_store1 (o := ⟨none, _, _, _, _, _⟩) rfl _ _ _ rfl D 128 rfl .u32 (((d3.len + 1 : Nat) : Int)) rfl (by kernel_rfl) _ _ (rD3.congr (by rw [E3.out])) G4.out ?_); intro u5 hu5 ou5 su5)
                | ((with_reducible refine at_slot 89 ?_); (refine arm_want (.int .u32 (b.fro : Int)) 89 rfl (by kernel_rfl) (run_op_load1 _ _ rfl (.int .u32) (by kernel_rfl) rfl ⟨Y, 0, none⟩ rfl (.int .u32 (b.fro : Int)) (((rY3).only ou5 hYD).cell (show Has _ 0 _ from b_fro (Has.refl (bcs b))).get)) ?_)))
              have rD5 := hu5.congr L4.out; have rY5 := (rY3).only ou5 hYD; have rR5 := (rR3).only ou5 hRD
              have bel5 : Below w.heap.size w u5 := below_only bel3 ou5 lD bel3.size
              clear hu5 ou5 su5 rD3 rY3 rR3 bel3 L4 G4 E3
              refine (Slot.rlocking_nat b.fro _ KB.out.fro).mono ?_
              rintro e5 z5 ⟨rfl, rfl⟩
              rw [HLD.out]
              have L5 := Lib.hid (show lay (dcs d4) 96 (u8s b.prev) = dcs d5 by rw [HD5.out]; unfold s4; rw [if_pos hl]; exact lay_lock0 KD4.out KB.out.prev)
              have G5 := Lib.hid (show 96 + (u8s b.prev).length ≤ (dcs d4).length by rw [h_len KB.out.prev, dcs_len KD4.out]; omega)
              go_wp2_with (first
                | ((with_reducible refine at_slot 93 ?_); (refine arm_load (o := ⟨some 93, _, _, _, _, _⟩) rfl _ _ rfl Y 2 rfl (u8s b.prev) ((show Has (bcs b) 2 (u8s b.prev) from b_prev (Has.refl _)).range rY5) (szH KB.out.prev) ?_))
                | ((with_reducible refine arm_store (o := ⟨none, _, _, _, _, _⟩) rfl _ _ _ rfl D 96 rfl (u8s b.prev) rfl _ _ (rD5) G5.out (u8s_one _) (szH KB.out.prev) ?_); intro u6 hu6 ou6 su6))
              have rD6 := hu6.congr L5.out; have rR6 := rR5.only ou6 hRD
              have bel6 : Below w.heap.size w u6 := below_only bel5 ou6 lD bel5.size
              go_roundw
              case rel => exact ⟨⟨k + 1, by omega, by go_num, by rw [HST.out]; exact rD6, rR6⟩, bel6⟩
              case measure => simp [intOf]; omega
        · have HNE := Lib.hid (show ((E : Int) == (T : Int)) = false from beq_eq_false_iff_ne.2 (by omega))
          have HST := Lib.hid (HSN.out he)
          go_wp2_with (first
            | ((with_reducible refine at_slot 40 ?_); (refine arm_want (.bool true) 40 rfl (by kernel_rfl) (run_op_neqB _ _ .u32 (by kernel_rfl) _ _ rfl .u32 ((E : Int)) ((T : Int)) rfl rfl false HNE.out _) ?_)))
          go_roundw
          case rel => exact ⟨⟨k + 1, by omega, by go_num, by rw [HST.out]; exact rD1, rR1⟩, bel1⟩
          case measure => simp [intOf]; omega
      · have HL1 := Lib.hid (show seedS d b = d by unfold seedS; rw [if_neg hl])
        have HLD := Lib.hid (show decide (b.fro % 24 < 16) = false from decide_eq_false hl)
        rw [HLD.out]
        have rDn := rD0.congr (show dcs d = dcs d1 by rw [HD1.out, HL1.out])
        go_wp2_with (first
          | ((with_reducible refine at_slot 31 ?_); (refine arm_want (.int .i64 (m : Int)) 31 rfl (by kernel_rfl) (by rw [show (Value.int .i64 (m : Int)) = .int .i64 ((l.length : Int) - 1) by congr 1; have := HM.out; omega]; exact run_op_subI _ _ _ _ rfl _ _ rfl rfl (by simp [IntKind.wrap, IntKind.signed, IntKind.bits]; omega) _) ?_))
          | ((with_reducible refine at_slot 32 ?_); (refine arm_indexN (o := ⟨some 32, _, _, _, _, _⟩) rfl _ _ _ rfl 54 98 und_ents (by kernel_rfl) g go (l.length) cap rfl .i64 m rfl (by have := HM.out; omega) ?_))
          | ((with_reducible refine at_slot 34 ?_); (refine arm_want (.int .u32 (S : Int)) 34 rfl (by kernel_rfl) (run_op_load1 _ _ rfl (.int .u32) (by kernel_rfl) rfl ⟨g, go + m * 98, none⟩ rfl (.int .u32 (S : Int)) (by have h := cell_of (range_block rS.out (bel0.block g hg)); rw [HBS.out] at h; exact h)) ?_))
          | ((with_reducible refine at_slot 36 ?_); (refine arm_want (.int .u32 (b.fro : Int)) 36 rfl (by kernel_rfl) (run_op_load1 _ _ rfl (.int .u32) (by kernel_rfl) rfl ⟨Y, 0, none⟩ rfl (.int .u32 (b.fro : Int)) ((rY0).cell (show Has _ 0 _ from b_fro (Has.refl (bcs b))).get)) ?_)))
        have rD1 := rDn; have rY1 := rY0; have rR1 := rR0; have bel1 := bel0
        clear rDn
        refine (CE.out _).mono ?_
        rintro e2 z2 ⟨rfl, rfl⟩
        go_wp2_with fail
        refine (CS.out _).mono ?_
        rintro e3 z3 ⟨rfl, rfl⟩
        by_cases he : E = T
        · have HNE := Lib.hid (show ((E : Int) == (T : Int)) = true by rw [he]; exact beq_self_eq_true _)
          have HST := Lib.hid (HSY.out he)
          by_cases hk0 : k = 0
          · by_cases hep : E = 0
            · skip
              have HK0 := Lib.hid (show (((k : Nat) : Int) == 0) = true by rw [hk0]; rfl)
              have HE0 := Lib.hid (show ((E : Int) == 0) = true by rw [hep]; rfl)
              have HG0 := Lib.hid (show decide ((0 : Int) < (E : Int)) = false by exact decide_eq_false (by omega))
              have HGK := Lib.hid (show decide ((0 : Int) < (k : Int)) = false by exact decide_eq_false (by omega))
              have HC3 := Lib.hid (show ¬ c3 l k b from fun x => by have := HEE.out; unfold c3 at x; omega)
              have HC2 := Lib.hid (show k = 0 ∧ b.fro / 24 = 0 from ⟨hk0, by rw [← HEE.out]; exact hep⟩)
              have HN0 := Lib.hid (show decide (0 < E) = false ∧ decide (0 < k) = false from ⟨decide_eq_false (by omega), decide_eq_false (by omega)⟩)
              clear hk0 hep he
              go_wp2_with (first
                | ((with_reducible refine at_slot 40 ?_); (refine arm_want (.bool false) 40 rfl (by kernel_rfl) (run_op_neqB _ _ .u32 (by kernel_rfl) _ _ rfl .u32 ((E : Int)) ((T : Int)) rfl rfl true HNE.out _) ?_))
                | ((with_reducible refine at_slot 42 ?_); (refine arm_want (.bool true) 42 rfl (by kernel_rfl) (run_op_eqlB _ _ .i64 (by kernel_rfl) _ _ rfl .i64 ((k : Int)) (0) rfl rfl true HK0.out _) ?_))
                | ((with_reducible refine at_slot 45 ?_); (refine arm_want (.int .u32 (b.fro : Int)) 45 rfl (by kernel_rfl) (run_op_load1 _ _ rfl (.int .u32) (by kernel_rfl) rfl ⟨Y, 0, none⟩ rfl (.int .u32 (b.fro : Int)) ((rY1).cell (show Has _ 0 _ from b_fro (Has.refl (bcs b))).get)) ?_)))
              refine (CE.out _).mono ?_
              rintro e4 z4 ⟨rfl, rfl⟩
              have L2 := Lib.hid (show (dcs d1).set 128 (.int .u32 1) = dcs d2 by rw [HD2.out]; unfold s2; rw [if_pos HC2.out]; exact set_len0 KD1.out 1)
              have G2 := Lib.hid (show 128 < (dcs d1).length by rw [dcs_len KD1.out]; omega)
              go_wp2_with (first
                | ((with_reducible refine at_slot 47 ?_); (refine arm_want (.bool true) 47 rfl (by kernel_rfl) (run_op_eqlB _ _ .u32 (by kernel_rfl) _ _ rfl .u32 ((E : Int)) (0) rfl rfl true HE0.out _) ?_))
                | ((with_reducible refine arm_store1 (o := ⟨none, _, _, _, _, _⟩) rfl _ _ _ rfl D 128 rfl .u32 (1) rfl (by kernel_rfl) _ _ (rD1) G2.out ?_); intro u2 hu2 ou2 su2))
              have rD2 := hu2.congr L2.out; have rY2 := rY1.only ou2 hYD; have rR2 := rR1.only ou2 hRD
              have bel2 : Below w.heap.size w u2 := below_only bel1 ou2 lD bel1.size
              clear hu2 ou2 su2 L2 G2 rD1 rY1 rR1 bel1
              skip
              have rYx := rY2; have rDx := rD2; have rRx := rR2; have belx := bel2
              clear rY2 rD2 rR2 bel2
              refine wp_region_held (S := fun w' => Row w' Y 54 (bcs b)) (by kernel_rfl) ?_
              change wpAnyH _ _ _ _ _ _ _ _ u2.drew
              have rDz : Row u2.drew D 35 (dcs d2) := rDx
              have rYz : Row u2.drew Y 54 (bcs b) := rYx
              have rRz : Row u2.drew R 35 (dcs zd) := rRx
              have bz : Below w.heap.size w u2.drew := belx.drew
              generalize u2.drew = wz at rDz rYz rRz bz ⊢
              have hS : (fun w' => Row w' Y 54 (bcs b)) wz := rYz
              refine h_take 0 (.int .i64 (k : Int)) rfl 50 rfl (by kernel_rfl) (by kernel_rfl) (by kernel_rfl) (by kernel_rfl) (fun _ _ _ h => h) (fun w' _ => by kernel_rfl) hS ?_
              simp only [Act.put, List.setIfInBounds_toArray, List.set_cons_zero, List.set_cons_succ]
              refine h_take 1 (.bool true) rfl 51 rfl (by kernel_rfl) (by kernel_rfl) (by kernel_rfl) (by kernel_rfl) (fun _ _ _ h => h) (fun w' _ => run_op_eqlB _ _ .i64 (by kernel_rfl) _ _ rfl .i64 (k : Int) 0 rfl rfl true HK0.out w') hS ?_
              simp only [Act.put, List.setIfInBounds_toArray, List.set_cons_zero, List.set_cons_succ]
              refine h_take 2 (.bool true) rfl 52 rfl (by kernel_rfl) (by kernel_rfl) (by kernel_rfl) (by kernel_rfl) (fun _ _ _ h => h) (fun w' _ => by kernel_rfl) hS ?_
              simp only [Act.put, List.setIfInBounds_toArray, List.set_cons_zero, List.set_cons_succ]
              refine h_take 3 (.pointer (some ⟨Y, 0, none⟩)) rfl 53 rfl (by kernel_rfl) (by kernel_rfl) (by kernel_rfl) (by kernel_rfl) (fun _ _ _ h => h) (fun w' _ => by kernel_rfl) hS ?_
              simp only [Act.put, List.setIfInBounds_toArray, List.set_cons_zero, List.set_cons_succ]
              refine h_take 4 (.int .u32 (b.fro : Int)) rfl 54 rfl (by kernel_rfl) (by kernel_rfl) (by kernel_rfl) (by kernel_rfl) (fun _ _ _ h => h) (fun w' h => run_op_load1 _ _ rfl (.int .u32) (by kernel_rfl) rfl ⟨Y, 0, none⟩ rfl (.int .u32 (b.fro : Int)) (h.cell (show Has _ 0 _ from b_fro (Has.refl (bcs b))).get)) hS ?_
              simp only [Act.put, List.setIfInBounds_toArray, List.set_cons_zero, List.set_cons_succ]
              refine h_one (i := 5) (by kernel_rfl) (o_call rfl 55 rfl (by kernel_rfl) (run_op_call 14 _ _ rfl #[.int .u32 (b.fro : Int)] (by simp only [List.map_toArray, List.map_cons, List.map_nil]; rfl) Tryd.func14 (by kernel_rfl) (by kernel_rfl) _) (CE.out _) ?_)
              rintro e9 y9 ⟨rfl, rfl⟩
              refine ⟨_, rfl, rYz, ?_⟩
              simp only [Act.put, List.setIfInBounds_toArray, List.set_cons_zero, List.set_cons_succ]
              refine h_take 6 (.bool false) rfl 56 rfl (by kernel_rfl) (by kernel_rfl) (by kernel_rfl) (by kernel_rfl) (fun _ _ _ h => h) (fun w' _ => run_op_gtrB _ _ _ _ rfl .u32 (E : Int) 0 rfl rfl false HG0.out w') rYz ?_
              simp only [Act.put, List.setIfInBounds_toArray, List.set_cons_zero, List.set_cons_succ]
              refine h_take 7 (.bool false) rfl 57 rfl (by kernel_rfl) (by kernel_rfl) (by kernel_rfl) (by kernel_rfl) (fun _ _ _ h => h) (fun w' _ => by kernel_rfl) rYz ?_
              simp only [Act.put, List.setIfInBounds_toArray, List.set_cons_zero, List.set_cons_succ]
              refine h_take 8 (.bool false) rfl 58 rfl (by kernel_rfl) (by kernel_rfl) (by kernel_rfl) (by kernel_rfl) (fun _ _ _ h => h) (fun w' _ => by kernel_rfl) rYz ?_
              simp only [Act.put, List.setIfInBounds_toArray, List.set_cons_zero, List.set_cons_succ]
              refine h_take 9 (.int .i64 (k : Int)) rfl 59 rfl (by kernel_rfl) (by kernel_rfl) (by kernel_rfl) (by kernel_rfl) (fun _ _ _ h => h) (fun w' _ => by kernel_rfl) rYz ?_
              simp only [Act.put, List.setIfInBounds_toArray, List.set_cons_zero, List.set_cons_succ]
              refine h_take 10 (.bool false) rfl 60 rfl (by kernel_rfl) (by kernel_rfl) (by kernel_rfl) (by kernel_rfl) (fun _ _ _ h => h) (fun w' _ => run_op_gtrB _ _ _ _ rfl .i64 (k : Int) 0 rfl rfl false HGK.out w') rYz ?_
              simp only [Act.put, List.setIfInBounds_toArray, List.set_cons_zero, List.set_cons_succ]
              refine h_take 11 (.bool false) rfl 61 rfl (by kernel_rfl) (by kernel_rfl) (by kernel_rfl) (by kernel_rfl) (fun _ _ _ h => h) (fun w' _ => by kernel_rfl) rYz ?_
              simp only [Act.put, List.setIfInBounds_toArray, List.set_cons_zero, List.set_cons_succ]
              refine h_pass 12 rfl 62 rfl (by kernel_rfl) (by kernel_rfl) (by kernel_rfl) (by kernel_rfl) (fun _ _ _ h => h) rYz ?_
              simp only [Act.put, List.setIfInBounds_toArray, List.set_cons_zero, List.set_cons_succ]
              refine h_pass 13 rfl 63 rfl (by kernel_rfl) (by kernel_rfl) (by kernel_rfl) (by kernel_rfl) (fun _ _ _ h => h) rYz ?_
              simp only [Act.put, List.setIfInBounds_toArray, List.set_cons_zero, List.set_cons_succ]
              refine h_pass 14 rfl 64 rfl (by kernel_rfl) (by kernel_rfl) (by kernel_rfl) (by kernel_rfl) (fun _ _ _ h => h) rYz ?_
              simp only [Act.put, List.setIfInBounds_toArray, List.set_cons_zero, List.set_cons_succ]
              refine h_pass 15 rfl 65 rfl (by kernel_rfl) (by kernel_rfl) (by kernel_rfl) (by kernel_rfl) (fun _ _ _ h => h) rYz ?_
              simp only [Act.put, List.setIfInBounds_toArray, List.set_cons_zero, List.set_cons_succ]
              refine h_pass 16 rfl 66 rfl (by kernel_rfl) (by kernel_rfl) (by kernel_rfl) (by kernel_rfl) (fun _ _ _ h => h) rYz ?_
              simp only [Act.put, List.setIfInBounds_toArray, List.set_cons_zero, List.set_cons_succ]
              refine h_pass 17 rfl 67 rfl (by kernel_rfl) (by kernel_rfl) (by kernel_rfl) (by kernel_rfl) (fun _ _ _ h => h) rYz ?_
              simp only [Act.put, List.setIfInBounds_toArray, List.set_cons_zero, List.set_cons_succ]
              refine h_pass 18 rfl 68 rfl (by kernel_rfl) (by kernel_rfl) (by kernel_rfl) (by kernel_rfl) (fun _ _ _ h => h) rYz ?_
              simp only [Act.put, List.setIfInBounds_toArray, List.set_cons_zero, List.set_cons_succ]
              refine h_pass 19 rfl 69 rfl (by kernel_rfl) (by kernel_rfl) (by kernel_rfl) (by kernel_rfl) (fun _ _ _ h => h) rYz ?_
              simp only [Act.put, List.setIfInBounds_toArray, List.set_cons_zero, List.set_cons_succ]
              refine h_pass 20 rfl 70 rfl (by kernel_rfl) (by kernel_rfl) (by kernel_rfl) (by kernel_rfl) (fun _ _ _ h => h) rYz ?_
              simp only [Act.put, List.setIfInBounds_toArray, List.set_cons_zero, List.set_cons_succ]
              refine h_pass 21 rfl 71 rfl (by kernel_rfl) (by kernel_rfl) (by kernel_rfl) (by kernel_rfl) (fun _ _ _ h => h) rYz ?_
              simp only [Act.put, List.setIfInBounds_toArray, List.set_cons_zero, List.set_cons_succ]
              refine h_pass 22 rfl 72 rfl (by kernel_rfl) (by kernel_rfl) (by kernel_rfl) (by kernel_rfl) (fun _ _ _ h => h) rYz ?_
              simp only [Act.put, List.setIfInBounds_toArray, List.set_cons_zero, List.set_cons_succ]
              refine h_take 23 (.bool false) rfl 73 rfl (by kernel_rfl) (by kernel_rfl) (by kernel_rfl) (by kernel_rfl) (fun _ _ _ h => h) (fun w' _ => by kernel_rfl) rYz ?_
              simp only [Act.put, List.setIfInBounds_toArray, List.set_cons_zero, List.set_cons_succ]
              refine h_take 24 (.bool false) rfl 74 rfl (by kernel_rfl) (by kernel_rfl) (by kernel_rfl) (by kernel_rfl) (fun _ _ _ h => h) (fun w' _ => by kernel_rfl) rYz ?_
              simp only [Act.put, List.setIfInBounds_toArray, List.set_cons_zero, List.set_cons_succ]
              refine wpAnyH_done (by kernel_rfl) ?_ _
              have rD3 := rDz; have rY3 := rYz; have rR3 := rRz; have bel3 := bz
              clear hS rDz rYz rRz bz rDx rYx rRx belx
              have E3 := Lib.hid (show d2 = d3 by rw [HD3.out]; unfold s3; rw [if_neg HC3.out])
              have L4 := Lib.hid (show (dcs d3).set 128 (.int .u32 ((d3.len + 1 : Nat) : Int)) = dcs d4 by rw [HD4.out]; exact set_len0 KD3.out _)
              have G4 := Lib.hid (show 128 < (dcs d3).length by rw [dcs_len KD3.out]; omega)
              go_wp2_with (first
                | ((with_reducible refine at_slot 85 ?_); (refine arm_want (.int .u32 (d3.len : Int)) 85 rfl (by kernel_rfl) (run_op_load1 _ _ rfl (.int .u32) (by kernel_rfl) rfl ⟨D, 128, none⟩ rfl (.int .u32 (d3.len : Int)) ((rD3.congr (by rw [E3.out])).cell (show Has _ 128 _ from d_len KD3.out (Has.refl (dcs d3))).get)) ?_))
                | ((with_reducible refine at_slot 86 ?_); (refine arm_want (.int .u32 ((d3.len + 1 : Nat) : Int)) 86 rfl (by kernel_rfl) (by rw [show (Value.int .u32 ((d3.len + 1 : Nat) : Int)) = .int .u32 (((d3.len : Int) + 1) % 4294967296) by congr 1; have := HN3.out; omega]; exact run_op_addU _ _ _ _ rfl _ _ rfl rfl _) ?_))
                | ((with_reducible refine arm_store1 (o := ⟨none, _, _, _, _, _⟩) rfl _ _ _ rfl D 128 rfl .u32 (((d3.len + 1 : Nat) : Int)) rfl (by kernel_rfl) _ _ (rD3.congr (by rw [E3.out])) G4.out ?_); intro u5 hu5 ou5 su5)
                | ((with_reducible refine at_slot 89 ?_); (refine arm_want (.int .u32 (b.fro : Int)) 89 rfl (by kernel_rfl) (run_op_load1 _ _ rfl (.int .u32) (by kernel_rfl) rfl ⟨Y, 0, none⟩ rfl (.int .u32 (b.fro : Int)) (((rY3).only ou5 hYD).cell (show Has _ 0 _ from b_fro (Has.refl (bcs b))).get)) ?_)))
              have rD5 := hu5.congr L4.out; have rY5 := (rY3).only ou5 hYD; have rR5 := (rR3).only ou5 hRD
              have bel5 : Below w.heap.size w u5 := below_only bel3 ou5 lD bel3.size
              clear hu5 ou5 su5 rD3 rY3 rR3 bel3 L4 G4 E3
              refine (Slot.rlocking_nat b.fro _ KB.out.fro).mono ?_
              rintro e5 z5 ⟨rfl, rfl⟩
              rw [HLD.out]
              go_wp2_with fail
              have rD6 := rD5.congr (show dcs d4 = dcs d5 by rw [HD5.out]; unfold s4; rw [if_neg hl]); have rR6 := rR5; have bel6 := bel5
              go_roundw
              case rel => exact ⟨⟨k + 1, by omega, by go_num, by rw [HST.out]; exact rD6, rR6⟩, bel6⟩
              case measure => simp [intOf]; omega
            · skip
              have HK0 := Lib.hid (show (((k : Nat) : Int) == 0) = true by rw [hk0]; rfl)
              have HE0 := Lib.hid (show ((E : Int) == 0) = false by exact beq_eq_false_iff_ne.2 (by omega))
              have HG0 := Lib.hid (show decide ((0 : Int) < (E : Int)) = true by exact decide_eq_true (by omega))
              have HGK := Lib.hid (show decide ((0 : Int) < (k : Int)) = false by exact decide_eq_false (by omega))
              have HC3 := Lib.hid (show c3 l k b from .inl ⟨hk0, by have := HEE.out; omega⟩)
              have HC2 := Lib.hid (show ¬ (k = 0 ∧ b.fro / 24 = 0) by have := HEE.out; omega)
              have HN0 := Lib.hid (show decide (0 < E) = true ∧ decide (0 < k) = false from ⟨decide_eq_true (by omega), decide_eq_false (by omega)⟩)
              clear hk0 hep he
              go_wp2_with (first
                | ((with_reducible refine at_slot 40 ?_); (refine arm_want (.bool false) 40 rfl (by kernel_rfl) (run_op_neqB _ _ .u32 (by kernel_rfl) _ _ rfl .u32 ((E : Int)) ((T : Int)) rfl rfl true HNE.out _) ?_))
                | ((with_reducible refine at_slot 42 ?_); (refine arm_want (.bool true) 42 rfl (by kernel_rfl) (run_op_eqlB _ _ .i64 (by kernel_rfl) _ _ rfl .i64 ((k : Int)) (0) rfl rfl true HK0.out _) ?_))
                | ((with_reducible refine at_slot 45 ?_); (refine arm_want (.int .u32 (b.fro : Int)) 45 rfl (by kernel_rfl) (run_op_load1 _ _ rfl (.int .u32) (by kernel_rfl) rfl ⟨Y, 0, none⟩ rfl (.int .u32 (b.fro : Int)) ((rY1).cell (show Has _ 0 _ from b_fro (Has.refl (bcs b))).get)) ?_)))
              refine (CE.out _).mono ?_
              rintro e4 z4 ⟨rfl, rfl⟩
              go_wp2_with (first
                | ((with_reducible refine at_slot 47 ?_); (refine arm_want (.bool false) 47 rfl (by kernel_rfl) (run_op_eqlB _ _ .u32 (by kernel_rfl) _ _ rfl .u32 ((E : Int)) (0) rfl rfl false HE0.out _) ?_)))
              have rD2 := rD1.congr (show dcs d1 = dcs d2 by rw [HD2.out]; unfold s2; rw [if_neg HC2.out]); have rY2 := rY1; have rR2 := rR1; have bel2 := bel1
              clear rD1 rY1 rR1 bel1
              skip
              have rYx := rY2; have rDx := rD2; have rRx := rR2; have belx := bel2
              clear rY2 rD2 rR2 bel2
              have cq0 : v2.cell? ⟨Y, 0, none⟩ = some (.int .u32 (b.fro : Int)) := rYx.cell (show Has (bcs b) 0 [num32 b.fro] from b_fro (Has.refl (bcs b))).get
              have cq1 := HK0.out; have cq2 := HG0.out; have cq3 := HGK.out
              have cq4 : decide (0 < E) = true := HN0.out.1; have cq5 : decide (0 < k) = false := HN0.out.2
              go_quiet (first | (go_at_call 14; exact Calls.quiet_of_same ((CE.out _).mono fun _ _ h => ⟨h.1, h.2.symm⟩)))
              clear cq0 cq1 cq2 cq3 cq4 cq5
              have rD3 : Row (v2.drewN nq) D 35 (dcs d2) := rDx.drewN; have rY3 : Row (v2.drewN nq) Y 54 (bcs b) := rYx.drewN; have rR3 : Row (v2.drewN nq) R 35 (dcs zd) := rRx.drewN
              have bel3 : Below w.heap.size w (v2.drewN nq) := below_step belx belx.size (below_drewN _ _ _)
              clear rDx rYx rRx belx
              have B3 := Lib.hid (show Tryd.prog.built 35 [(0, .agg (u8s b.led).toArray), (1, .agg (u8s d2.seed).toArray), (2, .agg (u8s b.prev).toArray)] = some (dcs d3).toArray by rw [HD3.out]; unfold s3; rw [if_pos HC3.out]; exact built_rdat3 KB.out.led KD2.out.seed KB.out.prev)
              have L3 := Lib.hid (lay_dat0 KD2.out KD3.out)
              have G3 := Lib.hid (show 0 + (dcs d3).length ≤ (dcs d2).length by rw [dcs_len KD2.out, dcs_len KD3.out]; omega)
              have L4 := Lib.hid (show (dcs d3).set 128 (.int .u32 ((d3.len + 1 : Nat) : Int)) = dcs d4 by rw [HD4.out]; exact set_len0 KD3.out _)
              have G4 := Lib.hid (show 128 < (dcs d3).length by rw [dcs_len KD3.out]; omega)
              go_wp2_with (first
                | ((with_reducible refine at_slot 77 ?_); (refine arm_load (o := ⟨some 77, _, _, _, _, _⟩) rfl _ _ rfl Y 34 rfl (u8s b.led) ((show Has (bcs b) 34 (u8s b.led) from b_led KB.out (Has.refl _)).range rY3) (szH KB.out.led) ?_))
                | ((with_reducible refine at_slot 79 ?_); (refine arm_load (o := ⟨some 79, _, _, _, _, _⟩) rfl _ _ rfl D 32 rfl (u8s d2.seed) ((show Has (dcs d2) 32 (u8s d2.seed) from d_seed KD2.out (Has.refl _)).range rD3) (szH KD2.out.seed) ?_))
                | ((with_reducible refine at_slot 82 ?_); (refine arm_load (o := ⟨some 82, _, _, _, _, _⟩) rfl _ _ rfl Y 2 rfl (u8s b.prev) ((show Has (bcs b) 2 (u8s b.prev) from b_prev (Has.refl _)).range rY3) (szH KB.out.prev) ?_))
                | ((with_reducible refine at_slot 83 ?_); (refine arm_build (o := ⟨some 83, _, _, _, _, _⟩) rfl _ _ rfl (dcs d3) (by simp only [List.map_toArray, List.map_cons, List.map_nil]; exact B3.out) ?_))
                | ((with_reducible refine arm_store (o := ⟨none, _, _, _, _, _⟩) rfl _ _ _ rfl D 0 rfl (dcs d3) rfl _ _ (rD3) G3.out (dcs_one _) (sz_rdat KD3.out) ?_); intro u4 hu4 ou4 su4)
                | ((with_reducible refine at_slot 85 ?_); (refine arm_want (.int .u32 (d3.len : Int)) 85 rfl (by kernel_rfl) (run_op_load1 _ _ rfl (.int .u32) (by kernel_rfl) rfl ⟨D, 128, none⟩ rfl (.int .u32 (d3.len : Int)) ((hu4.congr L3.out).cell (show Has _ 128 _ from d_len KD3.out (Has.refl (dcs d3))).get)) ?_))
                | ((with_reducible refine at_slot 86 ?_); (refine arm_want (.int .u32 ((d3.len + 1 : Nat) : Int)) 86 rfl (by kernel_rfl) (by rw [show (Value.int .u32 ((d3.len + 1 : Nat) : Int)) = .int .u32 (((d3.len : Int) + 1) % 4294967296) by congr 1; have := HN3.out; omega]; exact run_op_addU _ _ _ _ rfl _ _ rfl rfl _) ?_))
                | ((with_reducible refine arm_store1 (o := ⟨none, _, _, _, _, _⟩) rfl _ _ _ rfl D 128 rfl .u32 (((d3.len + 1 : Nat) : Int)) rfl (by kernel_rfl) _ _ (hu4.congr L3.out) G4.out ?_); intro u5 hu5 ou5 su5)
                | ((with_reducible refine at_slot 89 ?_); (refine arm_want (.int .u32 (b.fro : Int)) 89 rfl (by kernel_rfl) (run_op_load1 _ _ rfl (.int .u32) (by kernel_rfl) rfl ⟨Y, 0, none⟩ rfl (.int .u32 (b.fro : Int)) (((rY3.only ou4 hYD).only ou5 hYD).cell (show Has _ 0 _ from b_fro (Has.refl (bcs b))).get)) ?_)))
              have rD5 := hu5.congr L4.out; have rY5 := (rY3.only ou4 hYD).only ou5 hYD; have rR5 := (rR3.only ou4 hRD).only ou5 hRD
              have bel5 : Below w.heap.size w u5 := below_only (below_only bel3 ou4 lD bel3.size) ou5 lD (below_only bel3 ou4 lD bel3.size).size
              clear hu5 ou5 su5 rD3 rY3 rR3 bel3 L4 G4 hu4 ou4 su4 B3 L3 G3
              refine (Slot.rlocking_nat b.fro _ KB.out.fro).mono ?_
              rintro e5 z5 ⟨rfl, rfl⟩
              rw [HLD.out]
              go_wp2_with fail
              have rD6 := rD5.congr (show dcs d4 = dcs d5 by rw [HD5.out]; unfold s4; rw [if_neg hl]); have rR6 := rR5; have bel6 := bel5
              go_roundw
              case rel => exact ⟨⟨k + 1, by omega, by go_num, by rw [HST.out]; exact rD6, rR6⟩, bel6⟩
              case measure => simp [intOf]; omega
          · obtain ⟨j, hj⟩ : ∃ j, j + 1 = k := ⟨k - 1, by omega⟩
            obtain ⟨pv, hpv, kj, hrj⟩ := HJ.out j hj
            have KJ := Lib.hid kj; have rJ := Lib.hid hrj
            clear kj hrj
            by_cases htu : pv.fro / 24 < E
            · skip
              have HK0 := Lib.hid (show (((k : Nat) : Int) == 0) = false by exact beq_eq_false_iff_ne.2 (by omega))
              have HGK := Lib.hid (show decide ((0 : Int) < (k : Int)) = true by exact decide_eq_true (by omega))
              have HLS := Lib.hid (show decide (((pv.fro / 24 : Nat) : Int) < (E : Int)) = true by exact decide_eq_true (by omega))
              have HJK := Lib.hid (show (k : Int) - 1 = (j : Int) ∧ j < l.length by omega)
              have HC3 := Lib.hid (show c3 l k b from .inr ⟨by omega, by rw [hpv]; have := HEE.out; omega⟩)
              have HC2 := Lib.hid (show ¬ (k = 0 ∧ b.fro / 24 = 0) by have := HEE.out; omega)
              clear hk0 hj hpv htu he
              go_wp2_with (first
                | ((with_reducible refine at_slot 40 ?_); (refine arm_want (.bool false) 40 rfl (by kernel_rfl) (run_op_neqB _ _ .u32 (by kernel_rfl) _ _ rfl .u32 ((E : Int)) ((T : Int)) rfl rfl true HNE.out _) ?_))
                | ((with_reducible refine at_slot 42 ?_); (refine arm_want (.bool false) 42 rfl (by kernel_rfl) (run_op_eqlB _ _ .i64 (by kernel_rfl) _ _ rfl .i64 ((k : Int)) (0) rfl rfl false HK0.out _) ?_)))
              have rD2 := rD1.congr (show dcs d1 = dcs d2 by rw [HD2.out]; unfold s2; rw [if_neg HC2.out]); have rY2 := rY1; have rR2 := rR1; have bel2 := bel1
              clear rD1 rY1 rR1 bel1
              skip
              have rYx := rY2; have rDx := rD2; have rRx := rR2; have belx := bel2
              clear rY2 rD2 rR2 bel2
              refine wp_region_quiet (C := fun w' => Below v2.heap.size v2 w') (by kernel_rfl) (by kernel_rfl) ((Below.refl _ _).drew) ?_
              rw [List.toList_toArray]
              refine q_value 50 rfl (.int .i64 (k : Int)) (by kernel_rfl) (fun w' _ => by kernel_rfl) ?_
              simp only [Act.put, List.setIfInBounds_toArray, List.set_cons_zero, List.set_cons_succ]
              refine q_value 51 rfl (.bool false) (by kernel_rfl) (fun w' _ => run_op_eqlB _ _ .i64 (by kernel_rfl) _ _ rfl .i64 (k : Int) 0 rfl rfl false HK0.out w') ?_
              simp only [Act.put, List.setIfInBounds_toArray, List.set_cons_zero, List.set_cons_succ]
              refine q_value 52 rfl (.bool false) (by kernel_rfl) (fun w' _ => by kernel_rfl) ?_
              simp only [Act.put, List.setIfInBounds_toArray, List.set_cons_zero, List.set_cons_succ]
              refine BigFrame.wpQuiet_skip (by kernel_rfl) ?_
              simp only [Act.put, List.setIfInBounds_toArray, List.set_cons_zero, List.set_cons_succ]
              refine BigFrame.wpQuiet_skip (by kernel_rfl) ?_
              simp only [Act.put, List.setIfInBounds_toArray, List.set_cons_zero, List.set_cons_succ]
              refine BigFrame.wpQuiet_skip (by kernel_rfl) ?_
              simp only [Act.put, List.setIfInBounds_toArray, List.set_cons_zero, List.set_cons_succ]
              refine BigFrame.wpQuiet_skip (by kernel_rfl) ?_
              simp only [Act.put, List.setIfInBounds_toArray, List.set_cons_zero, List.set_cons_succ]
              refine q_value 57 rfl (.bool false) (by kernel_rfl) (fun w' _ => by kernel_rfl) ?_
              simp only [Act.put, List.setIfInBounds_toArray, List.set_cons_zero, List.set_cons_succ]
              refine q_value 58 rfl (.bool false) (by kernel_rfl) (fun w' _ => by kernel_rfl) ?_
              simp only [Act.put, List.setIfInBounds_toArray, List.set_cons_zero, List.set_cons_succ]
              refine q_value 59 rfl (.int .i64 (k : Int)) (by kernel_rfl) (fun w' _ => by kernel_rfl) ?_
              simp only [Act.put, List.setIfInBounds_toArray, List.set_cons_zero, List.set_cons_succ]
              refine q_value 60 rfl (.bool true) (by kernel_rfl) (fun w' _ => run_op_gtrB _ _ _ _ rfl .i64 (k : Int) 0 rfl rfl true HGK.out w') ?_
              simp only [Act.put, List.setIfInBounds_toArray, List.set_cons_zero, List.set_cons_succ]
              refine q_value 61 rfl (.bool true) (by kernel_rfl) (fun w' _ => by kernel_rfl) ?_
              simp only [Act.put, List.setIfInBounds_toArray, List.set_cons_zero, List.set_cons_succ]
              refine q_value 62 rfl (.slice (some ⟨g, go, none⟩) l.length cap) (by kernel_rfl) (fun w' _ => by kernel_rfl) ?_
              simp only [Act.put, List.setIfInBounds_toArray, List.set_cons_zero, List.set_cons_succ]
              refine q_value 63 rfl (.int .i64 (k : Int)) (by kernel_rfl) (fun w' _ => by kernel_rfl) ?_
              simp only [Act.put, List.setIfInBounds_toArray, List.set_cons_zero, List.set_cons_succ]
              refine q_value 64 rfl (.int .i64 ((j : Nat) : Int)) (by kernel_rfl) (fun w' _ => by rw [show (Value.int .i64 (j : Int)) = .int .i64 ((k : Int) - 1) by rw [HJK.out.1]]; exact run_op_subI _ _ _ _ rfl _ _ rfl rfl (by have := HJK.out; simp [IntKind.wrap, IntKind.signed, IntKind.bits]; omega) w') ?_
              simp only [Act.put, List.setIfInBounds_toArray, List.set_cons_zero, List.set_cons_succ]
              refine q_value 65 rfl (.pointer (some ⟨g, go + j * 98, none⟩)) (by kernel_rfl) (fun w' _ => run_op_indexN _ _ _ rfl 54 98 und_ents (by kernel_rfl) g go l.length cap rfl .i64 j rfl HJK.out.2 w') ?_
              simp only [Act.put, List.setIfInBounds_toArray, List.set_cons_zero, List.set_cons_succ]
              refine q_value 66 rfl (.pointer (some ⟨g, go + j * 98, none⟩)) (by kernel_rfl) (fun w' _ => by kernel_rfl) ?_
              simp only [Act.put, List.setIfInBounds_toArray, List.set_cons_zero, List.set_cons_succ]
              refine q_value 67 rfl (.int .u32 (pv.fro : Int)) (by kernel_rfl) (fun w' hC => run_op_load1 _ _ rfl (.int .u32) (by kernel_rfl) rfl ⟨g, go + j * 98, none⟩ rfl (.int .u32 (pv.fro : Int)) (cell_of (range_block rJ.out ((below_step belx belx.size hC).block g hg)))) ?_
              simp only [Act.put, List.setIfInBounds_toArray, List.set_cons_zero, List.set_cons_succ]
              refine q_call 68 rfl (.int .u32 ((pv.fro / 24 : Nat) : Int)) 14 #[.int .u32 (pv.fro : Int)] (by kernel_rfl) (fun w' _ => run_op_call _ _ _ rfl _ (by simp only [List.map_toArray, List.map_cons, List.map_nil]; rfl) Tryd.func14 (by kernel_rfl) (by kernel_rfl) w') (fun w' hC => (Slot.repoch_nat pv.fro w' KJ.out.fro).mono fun e w'' h => ⟨h.1, h.2 ▸ hC⟩) ?_
              simp only [Act.put, List.setIfInBounds_toArray, List.set_cons_zero, List.set_cons_succ]
              refine q_value 69 rfl (.pointer (some ⟨Y, 0, none⟩)) (by kernel_rfl) (fun w' _ => by kernel_rfl) ?_
              simp only [Act.put, List.setIfInBounds_toArray, List.set_cons_zero, List.set_cons_succ]
              refine q_value 70 rfl (.int .u32 (b.fro : Int)) (by kernel_rfl) (fun w' hC => run_op_load1 _ _ rfl (.int .u32) (by kernel_rfl) rfl ⟨Y, 0, none⟩ rfl (.int .u32 (b.fro : Int)) ((rYx.old hC).cell (show Has _ 0 _ from b_fro (Has.refl (bcs b))).get)) ?_
              simp only [Act.put, List.setIfInBounds_toArray, List.set_cons_zero, List.set_cons_succ]
              refine q_call 71 rfl (.int .u32 (E : Int)) 14 #[.int .u32 (b.fro : Int)] (by kernel_rfl) (fun w' _ => run_op_call _ _ _ rfl _ (by simp only [List.map_toArray, List.map_cons, List.map_nil]; rfl) Tryd.func14 (by kernel_rfl) (by kernel_rfl) w') (fun w' hC => (CE.out w').mono fun e w'' h => ⟨h.1, h.2 ▸ hC⟩) ?_
              simp only [Act.put, List.setIfInBounds_toArray, List.set_cons_zero, List.set_cons_succ]
              refine q_value 72 rfl (.bool true) (by kernel_rfl) (fun w' _ => run_op_lssB _ _ _ _ rfl .u32 ((pv.fro / 24 : Nat) : Int) (E : Int) rfl rfl true HLS.out w') ?_
              simp only [Act.put, List.setIfInBounds_toArray, List.set_cons_zero, List.set_cons_succ]
              refine q_value 73 rfl (.bool true) (by kernel_rfl) (fun w' _ => by kernel_rfl) ?_
              simp only [Act.put, List.setIfInBounds_toArray, List.set_cons_zero, List.set_cons_succ]
              refine q_value 74 rfl (.bool true) (by kernel_rfl) (fun w' _ => by kernel_rfl) ?_
              simp only [Act.put, List.setIfInBounds_toArray, List.set_cons_zero, List.set_cons_succ]
              refine wpQuiet_nil ?_
              intro u3 hC
              have rD3 := rDx.old hC; have rY3 := rYx.old hC; have rR3 := rRx.old hC
              have bel3 : Below w.heap.size w u3 := below_step belx belx.size hC
              clear hC rDx rYx rRx belx
              have B3 := Lib.hid (show Tryd.prog.built 35 [(0, .agg (u8s b.led).toArray), (1, .agg (u8s d2.seed).toArray), (2, .agg (u8s b.prev).toArray)] = some (dcs d3).toArray by rw [HD3.out]; unfold s3; rw [if_pos HC3.out]; exact built_rdat3 KB.out.led KD2.out.seed KB.out.prev)
              have L3 := Lib.hid (lay_dat0 KD2.out KD3.out)
              have G3 := Lib.hid (show 0 + (dcs d3).length ≤ (dcs d2).length by rw [dcs_len KD2.out, dcs_len KD3.out]; omega)
              have L4 := Lib.hid (show (dcs d3).set 128 (.int .u32 ((d3.len + 1 : Nat) : Int)) = dcs d4 by rw [HD4.out]; exact set_len0 KD3.out _)
              have G4 := Lib.hid (show 128 < (dcs d3).length by rw [dcs_len KD3.out]; omega)
              go_wp2_with (first
                | ((with_reducible refine at_slot 77 ?_); (refine arm_load (o := ⟨some 77, _, _, _, _, _⟩) rfl _ _ rfl Y 34 rfl (u8s b.led) ((show Has (bcs b) 34 (u8s b.led) from b_led KB.out (Has.refl _)).range rY3) (szH KB.out.led) ?_))
                | ((with_reducible refine at_slot 79 ?_); (refine arm_load (o := ⟨some 79, _, _, _, _, _⟩) rfl _ _ rfl D 32 rfl (u8s d2.seed) ((show Has (dcs d2) 32 (u8s d2.seed) from d_seed KD2.out (Has.refl _)).range rD3) (szH KD2.out.seed) ?_))
                | ((with_reducible refine at_slot 82 ?_); (refine arm_load (o := ⟨some 82, _, _, _, _, _⟩) rfl _ _ rfl Y 2 rfl (u8s b.prev) ((show Has (bcs b) 2 (u8s b.prev) from b_prev (Has.refl _)).range rY3) (szH KB.out.prev) ?_))
                | ((with_reducible refine at_slot 83 ?_); (refine arm_build (o := ⟨some 83, _, _, _, _, _⟩) rfl _ _ rfl (dcs d3) (by simp only [List.map_toArray, List.map_cons, List.map_nil]; exact B3.out) ?_))
                | ((with_reducible refine arm_store (o := ⟨none, _, _, _, _, _⟩) rfl _ _ _ rfl D 0 rfl (dcs d3) rfl _ _ (rD3) G3.out (dcs_one _) (sz_rdat KD3.out) ?_); intro u4 hu4 ou4 su4)
                | ((with_reducible refine at_slot 85 ?_); (refine arm_want (.int .u32 (d3.len : Int)) 85 rfl (by kernel_rfl) (run_op_load1 _ _ rfl (.int .u32) (by kernel_rfl) rfl ⟨D, 128, none⟩ rfl (.int .u32 (d3.len : Int)) ((hu4.congr L3.out).cell (show Has _ 128 _ from d_len KD3.out (Has.refl (dcs d3))).get)) ?_))
                | ((with_reducible refine at_slot 86 ?_); (refine arm_want (.int .u32 ((d3.len + 1 : Nat) : Int)) 86 rfl (by kernel_rfl) (by rw [show (Value.int .u32 ((d3.len + 1 : Nat) : Int)) = .int .u32 (((d3.len : Int) + 1) % 4294967296) by congr 1; have := HN3.out; omega]; exact run_op_addU _ _ _ _ rfl _ _ rfl rfl _) ?_))
                | ((with_reducible refine arm_store1 (o := ⟨none, _, _, _, _, _⟩) rfl _ _ _ rfl D 128 rfl .u32 (((d3.len + 1 : Nat) : Int)) rfl (by kernel_rfl) _ _ (hu4.congr L3.out) G4.out ?_); intro u5 hu5 ou5 su5)
                | ((with_reducible refine at_slot 89 ?_); (refine arm_want (.int .u32 (b.fro : Int)) 89 rfl (by kernel_rfl) (run_op_load1 _ _ rfl (.int .u32) (by kernel_rfl) rfl ⟨Y, 0, none⟩ rfl (.int .u32 (b.fro : Int)) (((rY3.only ou4 hYD).only ou5 hYD).cell (show Has _ 0 _ from b_fro (Has.refl (bcs b))).get)) ?_)))
              have rD5 := hu5.congr L4.out; have rY5 := (rY3.only ou4 hYD).only ou5 hYD; have rR5 := (rR3.only ou4 hRD).only ou5 hRD
              have bel5 : Below w.heap.size w u5 := below_only (below_only bel3 ou4 lD bel3.size) ou5 lD (below_only bel3 ou4 lD bel3.size).size
              clear hu5 ou5 su5 rD3 rY3 rR3 bel3 L4 G4 hu4 ou4 su4 B3 L3 G3
              refine (Slot.rlocking_nat b.fro _ KB.out.fro).mono ?_
              rintro e4 z4 ⟨rfl, rfl⟩
              rw [HLD.out]
              go_wp2_with fail
              have rD6 := rD5.congr (show dcs d4 = dcs d5 by rw [HD5.out]; unfold s4; rw [if_neg hl]); have rR6 := rR5; have bel6 := bel5
              go_roundw
              case rel => exact ⟨⟨k + 1, by omega, by go_num, by rw [HST.out]; exact rD6, rR6⟩, bel6⟩
              case measure => simp [intOf]; omega
            · skip
              have HK0 := Lib.hid (show (((k : Nat) : Int) == 0) = false by exact beq_eq_false_iff_ne.2 (by omega))
              have HGK := Lib.hid (show decide ((0 : Int) < (k : Int)) = true by exact decide_eq_true (by omega))
              have HLS := Lib.hid (show decide (((pv.fro / 24 : Nat) : Int) < (E : Int)) = false by exact decide_eq_false (by omega))
              have HJK := Lib.hid (show (k : Int) - 1 = (j : Int) ∧ j < l.length by omega)
              have HC3 := Lib.hid (show ¬ c3 l k b from fun x => by have := HEE.out; unfold c3 at x; rw [hpv] at x; omega)
              have HC2 := Lib.hid (show ¬ (k = 0 ∧ b.fro / 24 = 0) by have := HEE.out; omega)
              clear hk0 hj hpv htu he
              go_wp2_with (first
                | ((with_reducible refine at_slot 40 ?_); (refine arm_want (.bool false) 40 rfl (by kernel_rfl) (run_op_neqB _ _ .u32 (by kernel_rfl) _ _ rfl .u32 ((E : Int)) ((T : Int)) rfl rfl true HNE.out _) ?_))
                | ((with_reducible refine at_slot 42 ?_); (refine arm_want (.bool false) 42 rfl (by kernel_rfl) (run_op_eqlB _ _ .i64 (by kernel_rfl) _ _ rfl .i64 ((k : Int)) (0) rfl rfl false HK0.out _) ?_)))
              have rD2 := rD1.congr (show dcs d1 = dcs d2 by rw [HD2.out]; unfold s2; rw [if_neg HC2.out]); have rY2 := rY1; have rR2 := rR1; have bel2 := bel1
              clear rD1 rY1 rR1 bel1
              skip
              have rYx := rY2; have rDx := rD2; have rRx := rR2; have belx := bel2
              clear rY2 rD2 rR2 bel2
              refine wp_region_quiet (C := fun w' => Below v2.heap.size v2 w') (by kernel_rfl) (by kernel_rfl) ((Below.refl _ _).drew) ?_
              rw [List.toList_toArray]
              refine q_value 50 rfl (.int .i64 (k : Int)) (by kernel_rfl) (fun w' _ => by kernel_rfl) ?_
              simp only [Act.put, List.setIfInBounds_toArray, List.set_cons_zero, List.set_cons_succ]
              refine q_value 51 rfl (.bool false) (by kernel_rfl) (fun w' _ => run_op_eqlB _ _ .i64 (by kernel_rfl) _ _ rfl .i64 (k : Int) 0 rfl rfl false HK0.out w') ?_
              simp only [Act.put, List.setIfInBounds_toArray, List.set_cons_zero, List.set_cons_succ]
              refine q_value 52 rfl (.bool false) (by kernel_rfl) (fun w' _ => by kernel_rfl) ?_
              simp only [Act.put, List.setIfInBounds_toArray, List.set_cons_zero, List.set_cons_succ]
              refine BigFrame.wpQuiet_skip (by kernel_rfl) ?_
              simp only [Act.put, List.setIfInBounds_toArray, List.set_cons_zero, List.set_cons_succ]
              refine BigFrame.wpQuiet_skip (by kernel_rfl) ?_
              simp only [Act.put, List.setIfInBounds_toArray, List.set_cons_zero, List.set_cons_succ]
              refine BigFrame.wpQuiet_skip (by kernel_rfl) ?_
              simp only [Act.put, List.setIfInBounds_toArray, List.set_cons_zero, List.set_cons_succ]
              refine BigFrame.wpQuiet_skip (by kernel_rfl) ?_
              simp only [Act.put, List.setIfInBounds_toArray, List.set_cons_zero, List.set_cons_succ]
              refine q_value 57 rfl (.bool false) (by kernel_rfl) (fun w' _ => by kernel_rfl) ?_
              simp only [Act.put, List.setIfInBounds_toArray, List.set_cons_zero, List.set_cons_succ]
              refine q_value 58 rfl (.bool false) (by kernel_rfl) (fun w' _ => by kernel_rfl) ?_
              simp only [Act.put, List.setIfInBounds_toArray, List.set_cons_zero, List.set_cons_succ]
              refine q_value 59 rfl (.int .i64 (k : Int)) (by kernel_rfl) (fun w' _ => by kernel_rfl) ?_
              simp only [Act.put, List.setIfInBounds_toArray, List.set_cons_zero, List.set_cons_succ]
              refine q_value 60 rfl (.bool true) (by kernel_rfl) (fun w' _ => run_op_gtrB _ _ _ _ rfl .i64 (k : Int) 0 rfl rfl true HGK.out w') ?_
              simp only [Act.put, List.setIfInBounds_toArray, List.set_cons_zero, List.set_cons_succ]
              refine q_value 61 rfl (.bool true) (by kernel_rfl) (fun w' _ => by kernel_rfl) ?_
              simp only [Act.put, List.setIfInBounds_toArray, List.set_cons_zero, List.set_cons_succ]
              refine q_value 62 rfl (.slice (some ⟨g, go, none⟩) l.length cap) (by kernel_rfl) (fun w' _ => by kernel_rfl) ?_
              simp only [Act.put, List.setIfInBounds_toArray, List.set_cons_zero, List.set_cons_succ]
              refine q_value 63 rfl (.int .i64 (k : Int)) (by kernel_rfl) (fun w' _ => by kernel_rfl) ?_
              simp only [Act.put, List.setIfInBounds_toArray, List.set_cons_zero, List.set_cons_succ]
              refine q_value 64 rfl (.int .i64 ((j : Nat) : Int)) (by kernel_rfl) (fun w' _ => by rw [show (Value.int .i64 (j : Int)) = .int .i64 ((k : Int) - 1) by rw [HJK.out.1]]; exact run_op_subI _ _ _ _ rfl _ _ rfl rfl (by have := HJK.out; simp [IntKind.wrap, IntKind.signed, IntKind.bits]; omega) w') ?_
              simp only [Act.put, List.setIfInBounds_toArray, List.set_cons_zero, List.set_cons_succ]
              refine q_value 65 rfl (.pointer (some ⟨g, go + j * 98, none⟩)) (by kernel_rfl) (fun w' _ => run_op_indexN _ _ _ rfl 54 98 und_ents (by kernel_rfl) g go l.length cap rfl .i64 j rfl HJK.out.2 w') ?_
              simp only [Act.put, List.setIfInBounds_toArray, List.set_cons_zero, List.set_cons_succ]
              refine q_value 66 rfl (.pointer (some ⟨g, go + j * 98, none⟩)) (by kernel_rfl) (fun w' _ => by kernel_rfl) ?_
              simp only [Act.put, List.setIfInBounds_toArray, List.set_cons_zero, List.set_cons_succ]
              refine q_value 67 rfl (.int .u32 (pv.fro : Int)) (by kernel_rfl) (fun w' hC => run_op_load1 _ _ rfl (.int .u32) (by kernel_rfl) rfl ⟨g, go + j * 98, none⟩ rfl (.int .u32 (pv.fro : Int)) (cell_of (range_block rJ.out ((below_step belx belx.size hC).block g hg)))) ?_
              simp only [Act.put, List.setIfInBounds_toArray, List.set_cons_zero, List.set_cons_succ]
              refine q_call 68 rfl (.int .u32 ((pv.fro / 24 : Nat) : Int)) 14 #[.int .u32 (pv.fro : Int)] (by kernel_rfl) (fun w' _ => run_op_call _ _ _ rfl _ (by simp only [List.map_toArray, List.map_cons, List.map_nil]; rfl) Tryd.func14 (by kernel_rfl) (by kernel_rfl) w') (fun w' hC => (Slot.repoch_nat pv.fro w' KJ.out.fro).mono fun e w'' h => ⟨h.1, h.2 ▸ hC⟩) ?_
              simp only [Act.put, List.setIfInBounds_toArray, List.set_cons_zero, List.set_cons_succ]
              refine q_value 69 rfl (.pointer (some ⟨Y, 0, none⟩)) (by kernel_rfl) (fun w' _ => by kernel_rfl) ?_
              simp only [Act.put, List.setIfInBounds_toArray, List.set_cons_zero, List.set_cons_succ]
              refine q_value 70 rfl (.int .u32 (b.fro : Int)) (by kernel_rfl) (fun w' hC => run_op_load1 _ _ rfl (.int .u32) (by kernel_rfl) rfl ⟨Y, 0, none⟩ rfl (.int .u32 (b.fro : Int)) ((rYx.old hC).cell (show Has _ 0 _ from b_fro (Has.refl (bcs b))).get)) ?_
              simp only [Act.put, List.setIfInBounds_toArray, List.set_cons_zero, List.set_cons_succ]
              refine q_call 71 rfl (.int .u32 (E : Int)) 14 #[.int .u32 (b.fro : Int)] (by kernel_rfl) (fun w' _ => run_op_call _ _ _ rfl _ (by simp only [List.map_toArray, List.map_cons, List.map_nil]; rfl) Tryd.func14 (by kernel_rfl) (by kernel_rfl) w') (fun w' hC => (CE.out w').mono fun e w'' h => ⟨h.1, h.2 ▸ hC⟩) ?_
              simp only [Act.put, List.setIfInBounds_toArray, List.set_cons_zero, List.set_cons_succ]
              refine q_value 72 rfl (.bool false) (by kernel_rfl) (fun w' _ => run_op_lssB _ _ _ _ rfl .u32 ((pv.fro / 24 : Nat) : Int) (E : Int) rfl rfl false HLS.out w') ?_
              simp only [Act.put, List.setIfInBounds_toArray, List.set_cons_zero, List.set_cons_succ]
              refine q_value 73 rfl (.bool false) (by kernel_rfl) (fun w' _ => by kernel_rfl) ?_
              simp only [Act.put, List.setIfInBounds_toArray, List.set_cons_zero, List.set_cons_succ]
              refine q_value 74 rfl (.bool false) (by kernel_rfl) (fun w' _ => by kernel_rfl) ?_
              simp only [Act.put, List.setIfInBounds_toArray, List.set_cons_zero, List.set_cons_succ]
              refine wpQuiet_nil ?_
              intro u3 hC
              have rD3 := rDx.old hC; have rY3 := rYx.old hC; have rR3 := rRx.old hC
              have bel3 : Below w.heap.size w u3 := below_step belx belx.size hC
              clear hC rDx rYx rRx belx
              have E3 := Lib.hid (show d2 = d3 by rw [HD3.out]; unfold s3; rw [if_neg HC3.out])
              have L4 := Lib.hid (show (dcs d3).set 128 (.int .u32 ((d3.len + 1 : Nat) : Int)) = dcs d4 by rw [HD4.out]; exact set_len0 KD3.out _)
              have G4 := Lib.hid (show 128 < (dcs d3).length by rw [dcs_len KD3.out]; omega)
              go_wp2_with (first
                | ((with_reducible refine at_slot 85 ?_); (refine arm_want (.int .u32 (d3.len : Int)) 85 rfl (by kernel_rfl) (run_op_load1 _ _ rfl (.int .u32) (by kernel_rfl) rfl ⟨D, 128, none⟩ rfl (.int .u32 (d3.len : Int)) ((rD3.congr (by rw [E3.out])).cell (show Has _ 128 _ from d_len KD3.out (Has.refl (dcs d3))).get)) ?_))
                | ((with_reducible refine at_slot 86 ?_); (refine arm_want (.int .u32 ((d3.len + 1 : Nat) : Int)) 86 rfl (by kernel_rfl) (by rw [show (Value.int .u32 ((d3.len + 1 : Nat) : Int)) = .int .u32 (((d3.len : Int) + 1) % 4294967296) by congr 1; have := HN3.out; omega]; exact run_op_addU _ _ _ _ rfl _ _ rfl rfl _) ?_))
                | ((with_reducible refine arm_store1 (o := ⟨none, _, _, _, _, _⟩) rfl _ _ _ rfl D 128 rfl .u32 (((d3.len + 1 : Nat) : Int)) rfl (by kernel_rfl) _ _ (rD3.congr (by rw [E3.out])) G4.out ?_); intro u5 hu5 ou5 su5)
                | ((with_reducible refine at_slot 89 ?_); (refine arm_want (.int .u32 (b.fro : Int)) 89 rfl (by kernel_rfl) (run_op_load1 _ _ rfl (.int .u32) (by kernel_rfl) rfl ⟨Y, 0, none⟩ rfl (.int .u32 (b.fro : Int)) (((rY3).only ou5 hYD).cell (show Has _ 0 _ from b_fro (Has.refl (bcs b))).get)) ?_)))
              have rD5 := hu5.congr L4.out; have rY5 := (rY3).only ou5 hYD; have rR5 := (rR3).only ou5 hRD
              have bel5 : Below w.heap.size w u5 := below_only bel3 ou5 lD bel3.size
              clear hu5 ou5 su5 rD3 rY3 rR3 bel3 L4 G4 E3
              refine (Slot.rlocking_nat b.fro _ KB.out.fro).mono ?_
              rintro e4 z4 ⟨rfl, rfl⟩
              rw [HLD.out]
              go_wp2_with fail
              have rD6 := rD5.congr (show dcs d4 = dcs d5 by rw [HD5.out]; unfold s4; rw [if_neg hl]); have rR6 := rR5; have bel6 := bel5
              go_roundw
              case rel => exact ⟨⟨k + 1, by omega, by go_num, by rw [HST.out]; exact rD6, rR6⟩, bel6⟩
              case measure => simp [intOf]; omega
        · have HNE := Lib.hid (show ((E : Int) == (T : Int)) = false from beq_eq_false_iff_ne.2 (by omega))
          have HST := Lib.hid (HSN.out he)
          go_wp2_with (first
            | ((with_reducible refine at_slot 40 ?_); (refine arm_want (.bool true) 40 rfl (by kernel_rfl) (run_op_neqB _ _ .u32 (by kernel_rfl) _ _ rfl .u32 ((E : Int)) ((T : Int)) rfl rfl false HNE.out _) ?_)))
          go_roundw
          case rel => exact ⟨⟨k + 1, by omega, by go_num, by rw [HST.out]; exact rD1, rR1⟩, bel1⟩
          case measure => simp [intOf]; omega
    · obtain rfl : k = l.length := by omega
      have KN0 := Lib.hid (HLK.out l.length (Nat.le_refl _)).1
      have HNX := Lib.hid (show loopD f (lastS l / 24) l l.length = nextH f l from rfl)
      rw [HNX.out] at rD KN0
      obtain ⟨nx, hnx⟩ : ∃ nx, nx = nextH f l := ⟨_, rfl⟩
      rw [← hnx] at rD KN0
      have HX := Lib.hid hnx
      clear HNX hnx
      go_wp2_with (first
        | ((with_reducible refine at_slot 96 ?_); (refine arm_load (o := ⟨some 96, _, _, _, _, _⟩) rfl _ _ rfl D 0 rfl (dcs nx) ((Has.refl _).range rD) (sz_rdat KN0.out) ?_))
        | ((with_reducible refine arm_store (o := ⟨none, _, _, _, _, _⟩) rfl _ _ _ rfl R 0 rfl (dcs nx) rfl _ _ (rR) (fitD KN0.out) (dcs_one _) (sz_rdat KN0.out) ?_); intro w9 hw9 ow9 sw9))
      exact bodyPost_ret (v := .agg (dcs nx).toArray) (result_row (p := 4) (ty := 35) (u := 35) (by kernel_rfl) _ _ R (dcs nx) rfl (hw9.congr (allD KN0.out)) (sz_rdat KN0.out)) rfl ⟨by rw [HX.out], below_only bel ow9 lR bel.size⟩
end Go.Proofs.YtijpgncecfgfdaaDoor.Ep
