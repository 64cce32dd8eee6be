/-
  The walk of layer 13's statement ChooseNear, out of the contracts: it returns true, and changes nothing that was there. Over this seat's translation.
-/
import Derived.Test.YtffpifljeeikfaaDoorChoAwake
import Derived.Test.YtffpifljeeikfaaDoorChoRight
namespace Go.Proofs.YtffpifljeeikfaaDoor.Cz
open Go.ChangeShapes Go.WideShapes Go.ChangeAt Go.RowKit Go.Proofs.YtffpifljeeikfaaDoor.Mem Go.Proofs.YtffpifljeeikfaaDoor.Bt Go.Proofs.YtffpifljeeikfaaDoor.Sa Go.Proofs.YtffpifljeeikfaaDoor.Sl
open Go.Proofs.YtffpifljeeikfaaDoor.Od (Ky kcs kcmp kval keyN keyN_ok cmpN_neg cmpN_pos sz_key kK fK Top topF topF_has topF_of greatest_any of_any run_op_eqlK key_iff fit_key)
open Go.Proofs.YtffpifljeeikfaaDoor.Lk (kS fS)
open Go.Proofs.YtffpifljeeikfaaDoor.Wn (wcs WRt)
open Go.Proofs.YtffpifljeeikfaaDoor.Ep (H32 zh zh_ok num32 Has h_len one_app one_num szH zH fitH allH)
open Go.Proofs.YtffpifljeeikfaaDoor.Sha (ks)
set_option linter.unusedVariables false
set_option linter.unusedSimpArgs false

set_option maxRecDepth 100000 in
theorem run_op_neqK {o : Oper} {a : Act} {s t : Ky} (k : s.Ok) (j : t.Ok) (y z : Operand) (t' : TypeId) (ho : o.op = .binOp .neq 45 y z t') (hy : a.eval y = .agg (kcs s).toArray) (hz : a.eval z = .agg (kcs t).toArray) (b : Bool) (hb : b = true ↔ s = t) (w : World) : (execOp a.eval o).run Tryd.prog w = .ok (.value (.bool (!b))) w :=
  run_op_neqF 45 y z t' ho 3 (by omega) (.struct (Tryd.prog.fieldsOf 45)) (by kernel_rfl) rfl (by kernel_rfl) (kcs s) (kcs t) hy hz (fit_key 0 k) (fit_key 0 j) b (key_iff k j hb) w
structure NnRel (v0 : World) (L : List Sta) (i kv : Value) (wr : World) : Prop where
  ex : ∃ (n : Nat) (p : Option Addr) (cap : Nat), n ≤ L.length ∧ i = .int .i64 (n : Int) ∧ kv = .slice p n cap ∧ Sl.Own kK wr v0.heap.size p cap ((L.take n).map keyN) ∧ ∀ (x m : Nat) (a b : Sta), x < n → L[x]? = some a → m < x → L[m]? = some b → nearP a b
  bel : Below v0.heap.size v0 wr
structure NiRel (v0 : World) (L : List Sta) (n : Nat) (a : Sta) (X : Nat) (p : Option Addr) (cap : Nat) (i : Value) (wr : World) : Prop where
  ex : ∃ m : Nat, m ≤ n ∧ i = .int .i64 (m : Int) ∧ ∀ (x : Nat) (b : Sta), x < m → L[x]? = some b → nearP a b
  own : Sl.Own kK wr v0.heap.size p cap ((L.take n).map keyN)
  rx : Row wr X 35 (scs a)
  bel : Below v0.heap.size v0 wr
theorem map_snoc {L : List Sta} {n : Nat} {a : Sta} (h : L[n]? = some a) : (L.take n).map keyN ++ [keyN a] = (L.take (n + 1)).map keyN := by rw [← take_snoc h, List.map_append]; rfl
theorem near_more {L : List Sta} {n : Nat} {a : Sta} (ha : L[n]? = some a) (h : ∀ (x m : Nat) (a b : Sta), x < n → L[x]? = some a → m < x → L[m]? = some b → nearP a b) (g : ∀ (x : Nat) (b : Sta), x < n → L[x]? = some b → nearP a b) : ∀ (x m : Nat) (a b : Sta), x < n + 1 → L[x]? = some a → m < x → L[m]? = some b → nearP a b := fun x m a' b hx ha' hm hb => by
  by_cases e : x < n
  · exact h x m a' b e ha' hm hb
  · obtain rfl : x = n := by omega
    rw [ha] at ha'
    rw [← Option.some.inj ha']
    exact g m b hm hb
theorem near_one {L : List Sta} {m : Nat} {a b : Sta} (hb : L[m]? = some b) (hn : nearP a b) (h : ∀ (x : Nat) (b : Sta), x < m → L[x]? = some b → nearP a b) : ∀ (x : Nat) (b : Sta), x < m + 1 → L[x]? = some b → nearP a b := fun x b' hx hb' => by
  by_cases e : x < m
  · exact h x b' e hb'
  · obtain rfl : x = m := by omega
    rw [hb] at hb'
    rw [← Option.some.inj hb']
    exact hn
theorem keys_ok {L : List Sta} (h : ∀ s ∈ L, s.Ok) : ∀ k ∈ L.map keyN, k.Ok := fun k hk => by
  obtain ⟨s, hs, rfl⟩ := List.mem_map.1 hk
  exact keyN_ok (h s hs)
set_option maxHeartbeats 40000000 in
set_option maxRecDepth 100000 in
theorem chooseNear_any (t : Sta) (l : List Sta) (P : Option Addr) (pc : Nat) (I J : Int) (w : World) (kt : t.Ok) (hs : At kS w P l) (hpc : l.length ≤ pc) (hm : l.length ≤ maxLen) (hby : l.length * 396 ≤ 140737488351232) (hk : w.rangeAt 0 0 (u32s ks)) :
    Calls Tryd.prog 4 #[.agg (scs t).toArray, .slice P l.length pc, .int .i64 I, .int .i64 J] w fun e w' => e = .returned (.bool true) ∧ Below w.heap.size w w' := by
  have hk1 : 0 < w.heap.size := range_lt hk (by simp [u32s, ks])
  have HKW : Hid (∀ w', Below w.heap.size w w' → w'.rangeAt 0 0 (u32s ks)) := Lib.hid fun w' hb => range_block hk (hb.block _ hk1)
  have KT := Lib.hid kt; have HS := Lib.hid hs; have HBY := Lib.hid hby; have HPC := Lib.hid hpc
  have CA := Lib.hid (fun w0 h => awake_any w0 h)
  obtain ⟨ll, hll⟩ : ∃ ll, ([t] ++ l).length = ll := ⟨_, rfl⟩
  have HLL := Lib.hid hll
  obtain ⟨ln, hln⟩ : ∃ ln, l.length = ln := ⟨_, rfl⟩
  have HLN : Hid (ln = l.length) := Lib.hid hln.symm
  have CRt : Hid (∀ w0 p c, At kS w0 p ([t] ++ l) → Calls Tryd.prog 7 #[.slice p ll c] w0 fun e w' => e = .returned (.bool (decide (RtL ([t] ++ l)))) ∧ Below w0.heap.size w0 w') := Lib.hid fun w0 p c h => by
    have c1 := right13_any ([t] ++ l) p c w0 h (by simp only [List.length_append, List.length_cons, List.length_nil, maxLen]; omega)
    rw [hll] at c1
    exact c1
  rw [hln]
  clear hk hk1 hs hpc hm hby
  by_cases hr : RtL ([t] ++ l)
  · rw [decide_eq_true hr] at CRt
    obtain ⟨L, hL⟩ : ∃ L, L = t :: l := ⟨_, rfl⟩
    have rl : ∀ s ∈ L, SRt s := by rw [hL]; exact hr.1
    have h20 : ll ≤ 20 := by rw [← hll]; exact hr.2
    have HL1 : Hid (ll = ln + 1) := Lib.hid (by rw [← hll, ← hln]; simp)
    have HLL2 : Hid (L.length = ll) := Lib.hid (by rw [hL, ← hll]; rfl)
    have HL := Lib.hid hL
    have RLH := Lib.hid rl
    have RTT : Hid (SRt t) := Lib.hid (rl t (by rw [hL]; simp))
    clear hr rl hL hll hln
    go_enter Tryd.func4, Tryd.ntmps4
    go_wp2_with (first
      | ((with_reducible refine at_slot 4 ?_); (refine arm_box (o := ⟨some 4, _, _, _, _, _⟩) rfl _ _ rfl (scs t) rfl ?_); intro A v1 Ae hv1 nv1))
    have q0 := Ae.out
    have q1 := nv1.size
    have lA : w.heap.size ≤ A := by omega
    have rA2 : Row v1 A 35 (scs t) := hv1
    have bel2 : Below w.heap.size w v1 := (below_step (Below.refl _ _) (by omega) nv1.below)
    clear q0 q1 Ae hv1 nv1
    refine (CA.out _ (HKW.out _ bel2)).mono ?_
    rintro e y3 ⟨rfl, hB⟩
    have rA3 : Row y3 A 35 (scs t) := rA2.old hB
    have bel3 : Below w.heap.size w y3 := below_step bel2 bel2.size hB
    clear hB rA2 bel2
    go_wp2_with (first
      | ((with_reducible refine at_slot 23 ?_); (refine arm_load (o := ⟨some 23, _, _, _, _, _⟩) rfl _ _ rfl A 0 rfl (scs t) ((show Has (scs t) 0 (scs t) from Has.refl _).range (rA3)) (sz_sta KT.out) ?_))
      | ((with_reducible refine at_slot 24 ?_); (refine arm_lit (K := kS) (o := ⟨some 24, _, _, _, _, _⟩) rfl fS [t] (allOk_cons KT.out allOk_nil) (by simp) _ _ rfl rfl (by simp only [List.map_toArray, List.map_cons, List.map_nil]; rfl) ?_); intro Q vq Qe hvq nvq)
      | ((with_reducible refine at_slot 26 ?_); (refine arm_appendB (K := kS) (o := ⟨some 26, _, _, _, _, _⟩) rfl fS _ _ rfl (w.heap.size) (some ⟨Q, 0, none⟩) _ 1 ([t]) rfl rfl (Sl.Own.row (base := w.heap.size) fS (allOk_cons KT.out allOk_nil) (by have := Qe.out; have := bel3.size; omega) (by simp [maxLen]) hvq) (_) _ _ (l) rfl HLN.out ((HS.out.below bel3).below nvq.below) (by have := HBY.out; simp only [List.length_cons, List.length_nil, maxLen]; omega) (by have := HBY.out; simp only [List.length_cons, List.length_nil]; omega) (by have := bel3.size; have := nvq.size; omega) ?_); intro p2 c2 vz hO hBZ hkp hat; rw [HLL.out]))
    have qA := rA3.lt
    have nAQ : A ≠ Q := by have := Qe.out; omega
    have belz : Below w.heap.size w vz := (below_step bel3 bel3.size nvq.below).trans hBZ
    have rAz : Row vz A 35 (scs t) := (hkp.out A (by have := nvq.size; omega) (fun e => nAQ (by have h1 : Q = A := Option.some.inj e; omega))).trans (rA3.old nvq.below)
    clear rA3 bel3 qA nAQ Qe hvq nvq hBZ hkp hat
    have hcap := hO.cap; have hAl := hO.at fS; have hO2 := Lib.hid hO; clear hO
    go_wp2_with fail
    refine (CRt.out _ p2 c2 hAl).mono ?_
    rintro e y4 ⟨rfl, hB⟩
    have rA4 : Row y4 A 35 (scs t) := rAz.old hB
    have hAl4 := hAl.below hB
    have bel4 : Below w.heap.size w y4 := below_step belz belz.size hB
    clear hB rAz hAl belz
    have OKL : Hid (∀ s ∈ L, s.Ok) := Lib.hid (by rw [HL.out]; exact hAl4.ok)
    have HAT : Hid (At kS y4 p2 L) := Lib.hid (by rw [HL.out]; exact hAl4)
    have HC2 : Hid (ll ≤ c2) := Lib.hid (by have h := hcap; have := HLN.out; have := HL1.out; simp only [List.length_append, List.length_cons, List.length_nil] at h; omega)
    have RA := Lib.hid rA4; have BEL := Lib.hid bel4
    obtain ⟨x0, g, o, _, _, hP2, hgl, _⟩ := HAT.out.get (k := 0) (by have := HLL2.out; have := HL1.out; omega)
    subst hP2
    have HGL := Lib.hid hgl
    clear hAl4 rA4 bel4 hcap hgl CRt CA hO2
    have h0 : NnRel y4 L (.int .i64 0) (.slice none 0 0) y4 := ⟨⟨0, none, 0, by omega, rfl, rfl, by rw [List.take_zero]; exact Sl.Own.nil _ _, fun x m a b hx => by omega⟩, Below.refl _ _⟩
    go_wp2_with fail
    go_loopw [32, 10] (fun i kv wr => NnRel y4 L i kv wr) (fun i _ _ => ll - (intOf i).toNat)
    case atStart => exact h0
    case round =>
      clear h0
      obtain ⟨⟨n, kp, kc, hn, rfl, rfl, hown, hall⟩, bel⟩ := hrel
      have HALL := Lib.hid hall; clear hall
      have hnl : n ≤ ll := by have := HLL2.out; omega
      by_cases hlt : n < ll
      · obtain ⟨a, ha⟩ : ∃ a, L[n]? = some a := ⟨_, List.getElem?_eq_getElem (by have := HLL2.out; omega)⟩
        have KA := Lib.hid (OKL.out a (List.mem_of_getElem? ha)); have HA := Lib.hid ha
        have RTn := Lib.hid (at_range (HAT.out.below bel) ha)
        have ik : (n : Int) < (ll : Int) := by omega
        clear ha hn
        go_wp2_with (first
          | ((with_reducible refine at_slot 35 ?_); (refine arm_want (.pointer (some ⟨g, o + n * 363, none⟩)) 35 rfl (by kernel_rfl) (run_op_index fS _ _ rfl g o _ _ rfl .i64 _ rfl n rfl hlt _) ?_))
          | ((with_reducible refine at_slot 36 ?_); (refine arm_load (o := ⟨some 36, _, _, _, _, _⟩) rfl _ _ rfl g (o + n * 363) rfl (scs a) (RTn.out) (sz_sta KA.out) ?_))
          | ((with_reducible refine at_slot 12 ?_); (refine arm_alloc (o := ⟨some 12, _, _, _, _, _⟩) rfl _ rfl (scs zs) z_sta ?_); intro X v101 Xe hv101 nv101)
          | ((with_reducible refine arm_store (o := ⟨none, _, _, _, _, _⟩) rfl _ _ _ rfl X 0 rfl (scs a) rfl _ _ (hv101) (fitS KA.out) (scs_one _) (sz_sta KA.out) ?_); intro v102 hv102 ov102 sv102)
          | ((with_reducible refine at_slot 39 ?_); (refine arm_want (.slice (some ⟨g, o, none⟩) n c2) 39 rfl (by kernel_rfl) (run_op_head fS _ _ rfl _ _ _ rfl .i64 _ rfl n rfl (by have := HC2.out; omega) _) ?_)))
        have q0 := Xe.out
        have q1 := nv101.size
        have q2 := sv102.out
        have q3 := bel.size
        have lX : y4.heap.size ≤ X := by omega
        have pX : bk kp ≠ some X := fun e => by have := (hown.ge e).2; omega
        have rX103 : Row v102 X 35 (scs a) := (hv102.congr (allS KA.out))
        have hown103 := ((hown.below nv101.below).only ov102 pX)
        have bel103 : Below y4.heap.size y4 v102 := (below_only (below_step bel (by omega) nv101.below) ov102 lX (by omega))
        clear q0 q1 q2 q3 hown bel Xe hv101 nv101 hv102 ov102 sv102
        have LX := Lib.hid lX
        have h1 : NiRel y4 L n a X kp kc (.int .i64 0) v102 := ⟨⟨0, by omega, rfl, fun x b hx => by omega⟩, hown103, rX103, bel103⟩
        clear hown103 rX103 bel103 pX lX RTn
        go_loopw [41] (fun i wr => NiRel y4 L n a X kp kc i wr) (fun i _ => n - (intOf i).toNat)
        case atStart => exact h1
        case round =>
          clear h1
          obtain ⟨⟨m, hm, rfl, hnear⟩, hown, rX, bel⟩ := hrel
          have HNR := Lib.hid hnear; clear hnear
          by_cases hmn : m < n
          · obtain ⟨b, hb⟩ : ∃ b, L[m]? = some b := ⟨_, List.getElem?_eq_getElem (by have := HLL2.out; omega)⟩
            have KB := Lib.hid (OKL.out b (List.mem_of_getElem? hb)); have HB := Lib.hid hb
            have RTm := Lib.hid (at_range (HAT.out.below bel) hb)
            have im : (m : Int) < (n : Int) := by omega
            have CN := Lib.hid (fun w0 => near_any a b w0 KA.out KB.out)
            clear hb hm
            by_cases hnr : nearP a b
            · rw [decide_eq_true hnr] at CN
              have HN2 := Lib.hid (near_one HB.out hnr HNR.out)
              clear hnr
              go_wp2_with (first
                | ((with_reducible refine at_slot 43 ?_); (refine arm_want (.pointer (some ⟨g, o + m * 363, none⟩)) 43 rfl (by kernel_rfl) (run_op_index fS _ _ rfl g o _ _ rfl .i64 _ rfl m rfl hmn _) ?_))
                | ((with_reducible refine at_slot 44 ?_); (refine arm_load (o := ⟨some 44, _, _, _, _, _⟩) rfl _ _ rfl g (o + m * 363) rfl (scs b) (RTm.out) (sz_sta KB.out) ?_))
                | ((with_reducible refine at_slot 14 ?_); (refine arm_alloc (o := ⟨some 14, _, _, _, _, _⟩) rfl _ rfl (scs zs) z_sta ?_); intro Y v201 Ye hv201 nv201)
                | ((with_reducible refine arm_store (o := ⟨none, _, _, _, _, _⟩) rfl _ _ _ rfl Y 0 rfl (scs b) rfl _ _ (hv201) (fitS KB.out) (scs_one _) (sz_sta KB.out) ?_); intro v202 hv202 ov202 sv202)
                | ((with_reducible refine at_slot 45 ?_); (refine arm_load (o := ⟨some 45, _, _, _, _, _⟩) rfl _ _ rfl X 0 rfl (scs a) ((show Has (scs a) 0 (scs a) from Has.refl _).range (((rX.old nv201.below).only ov202 (by have := rX.lt; have := Ye.out; have := nv201.size; have := sv202.out; omega)))) (sz_sta KA.out) ?_))
                | ((with_reducible refine at_slot 46 ?_); (refine arm_load (o := ⟨some 46, _, _, _, _, _⟩) rfl _ _ rfl Y 0 rfl (scs b) ((show Has (scs b) 0 (scs b) from Has.refl _).range ((hv202.congr (allS KB.out)))) (sz_sta KB.out) ?_)))
              have q0 := Ye.out
              have q1 := nv201.size
              have q2 := sv202.out
              have q3 := rX.lt
              have q4 := bel.size
              have lY : y4.heap.size ≤ Y := by omega
              have nXY : X ≠ Y := by omega
              have nYX : Y ≠ X := by omega
              have pY : bk kp ≠ some Y := fun e => by have := (hown.ge e).2; omega
              have rX203 : Row v202 X 35 (scs a) := ((rX.old nv201.below).only ov202 nXY)
              have rY203 : Row v202 Y 35 (scs b) := (hv202.congr (allS KB.out))
              have hown203 := ((hown.below nv201.below).only ov202 pY)
              have bel203 : Below y4.heap.size y4 v202 := (below_only (below_step bel (by omega) nv201.below) ov202 lY (by omega))
              clear q0 q1 q2 q3 q4 rX hown bel Ye hv201 nv201 hv202 ov202 sv202
              refine (CN.out _).mono ?_
              rintro e y204 ⟨rfl, hB⟩
              have rX204 : Row y204 X 35 (scs a) := rX203.old hB
              have rY204 : Row y204 Y 35 (scs b) := rY203.old hB
              have hown204 := hown203.below hB
              have bel204 : Below y4.heap.size y4 y204 := below_step bel203 bel203.size hB
              clear hB rX203 rY203 hown203 bel203
              have hm100 : m < 100 := by omega
              go_wp2_with fail
              go_roundw
              case rel => exact ⟨⟨m + 1, by omega, by go_num, HN2.out⟩, hown204, rX204, bel204⟩
              case measure => simp [intOf]; omega
            · rw [decide_eq_false hnr] at CN
              clear hnr
              clear hown
              go_wp2_with (first
                | ((with_reducible refine at_slot 43 ?_); (refine arm_want (.pointer (some ⟨g, o + m * 363, none⟩)) 43 rfl (by kernel_rfl) (run_op_index fS _ _ rfl g o _ _ rfl .i64 _ rfl m rfl hmn _) ?_))
                | ((with_reducible refine at_slot 44 ?_); (refine arm_load (o := ⟨some 44, _, _, _, _, _⟩) rfl _ _ rfl g (o + m * 363) rfl (scs b) (RTm.out) (sz_sta KB.out) ?_))
                | ((with_reducible refine at_slot 14 ?_); (refine arm_alloc (o := ⟨some 14, _, _, _, _, _⟩) rfl _ rfl (scs zs) z_sta ?_); intro Y v201 Ye hv201 nv201)
                | ((with_reducible refine arm_store (o := ⟨none, _, _, _, _, _⟩) rfl _ _ _ rfl Y 0 rfl (scs b) rfl _ _ (hv201) (fitS KB.out) (scs_one _) (sz_sta KB.out) ?_); intro v202 hv202 ov202 sv202)
                | ((with_reducible refine at_slot 45 ?_); (refine arm_load (o := ⟨some 45, _, _, _, _, _⟩) rfl _ _ rfl X 0 rfl (scs a) ((show Has (scs a) 0 (scs a) from Has.refl _).range (((rX.old nv201.below).only ov202 (by have := rX.lt; have := Ye.out; have := nv201.size; have := sv202.out; omega)))) (sz_sta KA.out) ?_))
                | ((with_reducible refine at_slot 46 ?_); (refine arm_load (o := ⟨some 46, _, _, _, _, _⟩) rfl _ _ rfl Y 0 rfl (scs b) ((show Has (scs b) 0 (scs b) from Has.refl _).range ((hv202.congr (allS KB.out)))) (sz_sta KB.out) ?_)))
              have q0 := Ye.out
              have q1 := nv201.size
              have q2 := sv202.out
              have q3 := rX.lt
              have q4 := bel.size
              have lY : y4.heap.size ≤ Y := by omega
              have nXY : X ≠ Y := by omega
              have nYX : Y ≠ X := by omega
              have rX203 : Row v202 X 35 (scs a) := ((rX.old nv201.below).only ov202 nXY)
              have rY203 : Row v202 Y 35 (scs b) := (hv202.congr (allS KB.out))
              have bel203 : Below y4.heap.size y4 v202 := (below_only (below_step bel (by omega) nv201.below) ov202 lY (by omega))
              clear q0 q1 q2 q3 q4 rX bel Ye hv201 nv201 hv202 ov202 sv202
              refine (CN.out _).mono ?_
              rintro e y204 ⟨rfl, hB⟩
              have rX204 : Row y204 X 35 (scs a) := rX203.old hB
              have rY204 : Row y204 Y 35 (scs b) := rY203.old hB
              have bel204 : Below y4.heap.size y4 y204 := below_step bel203 bel203.size hB
              clear hB rX203 rY203 bel203
              go_wp2_with fail
              go_ret
              exact ⟨rfl, below_step BEL.out BEL.out.size bel204⟩
          · obtain rfl : m = n := by omega
            have HALL2 := Lib.hid (near_more HA.out HALL.out HNR.out)
            have CO := Lib.hid (fun w0 h => of_any a w0 KA.out h)
            have KK := Lib.hid (keyN_ok KA.out)
            have HSN := Lib.hid (map_snoc HA.out)
            have HLM : Hid (((L.take m).map keyN).length = m) := Lib.hid (by have := HLL2.out; rw [List.length_map, List.length_take]; omega)
            generalize keyN a = ka at CO KK HSN
            clear HNR HALL hmn hm
            go_wp2_with (first
              | ((with_reducible refine at_slot 51 ?_); (refine arm_load (o := ⟨some 51, _, _, _, _, _⟩) rfl _ _ rfl X 0 rfl (scs a) ((show Has (scs a) 0 (scs a) from Has.refl _).range (rX)) (sz_sta KA.out) ?_)))
            refine (CO.out _ (HKW.out _ (below_step BEL.out BEL.out.size bel))).mono ?_
            rintro e y201 ⟨rfl, hB⟩
            have rX201 : Row y201 X 35 (scs a) := rX.old hB
            have hown201 := hown.below hB
            have bel201 : Below y4.heap.size y4 y201 := below_step bel bel.size hB
            clear hB rX hown bel
            have hn100 : m < 100 := by omega
            go_wp2_with (first
              | ((with_reducible refine at_slot 53 ?_); (refine arm_lit (K := kK) (o := ⟨some 53, _, _, _, _, _⟩) rfl fK [ka] (allOk_cons KK.out allOk_nil) (by simp) _ _ rfl rfl (by simp only [List.map_toArray, List.map_cons, List.map_nil]; rfl) ?_); intro Z vY Ze hY nY)
              | ((with_reducible refine at_slot 54 ?_); (refine arm_append (K := kK) (o := ⟨some 54, _, _, _, _, _⟩) rfl fK _ _ rfl (y4.heap.size) (kp) _ kc ((L.take m).map keyN) HLM.out.symm rfl (hown201.below nY.below) (some ⟨Z, 0, none⟩) 1 1 ([ka]) rfl rfl (At.row fK (allOk_cons KK.out allOk_nil) hY (List.append_nil _).symm) (by simp) (by have := HLM.out; simp only [List.length_cons, List.length_nil]; omega) (by have := bel201.size; have := nY.size; omega) ?_); intro kp2 kc2 vZ hO hBZ hkp hat; rw [show ((L.take m).map keyN ++ [ka]).length = m + 1 by have := HLM.out; rw [List.length_append, List.length_cons, List.length_nil]; omega]))
            rw [HSN.out] at hO
            have belZ : Below y4.heap.size y4 vZ := (below_step bel201 bel201.size nY.below).trans hBZ
            clear hown201 bel201 Ze hY nY hBZ hkp hat rX201
            go_roundw
            case rel => exact ⟨⟨m + 1, kp2, kc2, by have := HLL2.out; omega, by go_num, rfl, hO, HALL2.out⟩, belZ⟩
            case measure => simp [intOf]; omega
      · obtain rfl : n = ll := by omega
        have hallp := near_pairs (l := L) (fun x m a b ha hm hb => HALL.out x m a b (by have := HLL2.out; have := (List.getElem?_eq_some_iff.1 ha).1; omega) ha hm hb)
        rw [List.take_of_length_le (by have := HLL2.out; omega)] at hown
        have hlk : (L.map keyN).length = n := by rw [List.length_map]; exact HLL2.out
        obtain ⟨j, hz, hj⟩ := topF_has (l := L.map keyN) (by have := HL1.out; omega)
        have CG := Lib.hid (fun w0 h => greatest_any (L.map keyN) kp kc w0 h (by omega))
        rw [hz, hlk] at CG
        have hjl : j < n := by have := hj.lt; omega
        obtain ⟨u0, hu0⟩ : ∃ u0, L[j]? = some u0 := ⟨_, List.getElem?_eq_getElem (by have := HLL2.out; omega)⟩
        have okt : ∀ s ∈ t :: l, s.Ok := by rw [← HL.out]; exact OKL.out
        have rtt : ∀ s ∈ t :: l, SRt s := by rw [← HL.out]; exact RLH.out
        have pall : ∀ a ∈ t :: l, ∀ b ∈ t :: l, nearP a b := by rw [← HL.out]; exact hallp
        have htop : keyN (foldF t l).1 = keyN u0 := fold_top okt pall (by rw [← HL.out]; exact hj) (by rw [← HL.out]; exact hu0)
        have CF : Hid (∀ w0, At kS w0 P l → w0.rangeAt 0 0 (u32s ks) → Calls Tryd.prog 14 #[.agg (scs t).toArray, .slice P ln pc] w0 fun e w' => e = .returned (.tuple #[.agg (scs (foldF t l).1).toArray, .int .i64 (((foldF t l).2 : Nat) : Int)]) ∧ Below w0.heap.size w0 w') := Lib.hid fun w0 h hk => by
          have c := fold_any t l P pc w0 KT.out RTT.out h (fun s hs => rtt s (List.mem_cons_of_mem _ hs)) (by have := HLN.out; have := HL1.out; omega) hk
          rw [← HLN.out] at c
          exact c
        have PALL := Lib.hid pall; have OKT := Lib.hid okt; have RTL := Lib.hid rtt
        have KU := Lib.hid (fold_ok KT.out HS.out.ok)
        have KKU := Lib.hid (keyN_ok KU.out)
        have CO := Lib.hid (fun w0 h => of_any (foldF t l).1 w0 KU.out h)
        have HMK : Hid (∀ m, (∀ x, x ∈ m ↔ x ∈ l) → keyN (foldF t m).1 = keyN (foldF t l).1) := Lib.hid fun m h => swap_keeps okt pall h
        have hkj : (L.map keyN)[j]? = some (keyN (foldF t l).1) := by rw [List.getElem?_map, hu0, htop]; rfl
        have HKJ := Lib.hid hkj
        have HAK := Lib.hid (hown.at fK)
        have GLT : Hid ((L.map keyN).length = n) := Lib.hid hlk
        generalize keyN (foldF t l).1 = ku at CO HMK HKJ KKU
        generalize foldF t l = uu at CF KU CO
        obtain ⟨u, un⟩ := uu
        simp only at CF KU CO
        obtain ⟨ky, gk, ok2, _, _, hkp, hgk, _⟩ := HAK.out.get (k := j) (by omega)
        subst hkp
        have RK := Lib.hid (at_range HAK.out HKJ.out); have HGK := Lib.hid hgk
        have BR : Hid (Below w.heap.size w wr) := Lib.hid (below_step BEL.out BEL.out.size bel)
        have RAr := Lib.hid (RA.out.old bel)
        clear hallp hlk hz hj hu0 okt rtt pall htop hkj hgk hown HALL BEL RA HAT bel hlt
        go_wp2_with fail
        have rA0 := RAr.out
        have hAK := HAK.out
        refine (CG.out _ hAK).mono ?_
        rintro e y301 ⟨rfl, hB⟩
        have rA301 : Row y301 A 35 (scs t) := rA0.old hB
        have bel301 : Below wr.heap.size wr y301 := hB
        clear rA0
        clear hAK CG
        go_wp2_with (first
          | ((with_reducible refine at_slot 59 ?_); (refine arm_load (o := ⟨some 59, _, _, _, _, _⟩) rfl _ _ rfl A 0 rfl (scs t) ((show Has (scs t) 0 (scs t) from Has.refl _).range (rA301)) (sz_sta KT.out) ?_)))
        refine (CF.out _ (HS.out.below (below_step BR.out BR.out.size bel301)) (HKW.out _ (below_step BR.out BR.out.size bel301))).mono ?_
        rintro e y302 ⟨rfl, hB⟩
        have rA302 : Row y302 A 35 (scs t) := rA301.old hB
        have bel302 : Below wr.heap.size wr y302 := below_step bel301 bel301.size hB
        clear hB rA301 bel301
        go_wp2_with (first
          | ((with_reducible refine at_slot 16 ?_); (refine arm_alloc (o := ⟨some 16, _, _, _, _, _⟩) rfl _ rfl (scs zs) z_sta ?_); intro U v303 Ue hv303 nv303)
          | ((with_reducible refine arm_store (o := ⟨none, _, _, _, _, _⟩) rfl _ _ _ rfl U 0 rfl (scs u) rfl _ _ (hv303) (fitS KU.out) (scs_one _) (sz_sta KU.out) ?_); intro v304 hv304 ov304 sv304))
        have q0 := Ue.out
        have q1 := nv303.size
        have q2 := sv304.out
        have q3 := rA302.lt
        have q4 := bel302.size
        have lU : wr.heap.size ≤ U := by omega
        have nAU : A ≠ U := by omega
        have nUA : U ≠ A := by omega
        have rA305 : Row v304 A 35 (scs t) := ((rA302.old nv303.below).only ov304 nAU)
        have rU305 : Row v304 U 35 (scs u) := (hv304.congr (allS KU.out))
        have bel305 : Below wr.heap.size wr v304 := (below_only (below_step bel302 (by omega) nv303.below) ov304 lU (by omega))
        clear q0 q1 q2 q3 q4 rA302 bel302 Ue hv303 nv303 hv304 ov304 sv304
        go_cut [80] (fun v wx => v = .bool false ∧ Row wx A 35 (scs t) ∧ Row wx U 35 (scs u) ∧ Below wr.heap.size wr wx)
        case first =>
          refine wp_region_held (S := fun w' => Below v304.heap.size v304 w') (by kernel_rfl) ?_
          change wpAnyH _ _ _ _ _ _ _ _ v304.drew
          have hS : Below v304.heap.size v304 v304.drew := (Below.refl _ _).drew
          generalize v304.drew = yz at hS ⊢
          refine h_take 0 (.int .i64 (j : Int)) rfl 64 rfl (by kernel_rfl) (by kernel_rfl) (by kernel_rfl) (by kernel_rfl) (fun _ _ _ h => h) (fun w' _ => by kernel_rfl) hS ?_
          simp only [Act.put, List.setIfInBounds_toArray, List.set_cons_zero, List.set_cons_succ]
          refine h_take 1 (.bool false) rfl 65 rfl (by kernel_rfl) (by kernel_rfl) (by kernel_rfl) (by kernel_rfl) (fun _ _ _ h => h) (fun w' _ => cmp_lss _ _ _ _ rfl .i64 (j : Int) 0 rfl rfl false (decide_eq_false (by omega)) w') hS ?_
          simp only [Act.put, List.setIfInBounds_toArray, List.set_cons_zero, List.set_cons_succ]
          refine h_take 2 (.bool false) rfl 66 rfl (by kernel_rfl) (by kernel_rfl) (by kernel_rfl) (by kernel_rfl) (fun _ _ _ h => h) (fun w' _ => by kernel_rfl) hS ?_
          simp only [Act.put, List.setIfInBounds_toArray, List.set_cons_zero, List.set_cons_succ]
          refine h_take 3 (.int .i64 (j : Int)) rfl 67 rfl (by kernel_rfl) (by kernel_rfl) (by kernel_rfl) (by kernel_rfl) (fun _ _ _ h => h) (fun w' _ => by kernel_rfl) hS ?_
          simp only [Act.put, List.setIfInBounds_toArray, List.set_cons_zero, List.set_cons_succ]
          refine h_take 4 (.slice (some ⟨g, o, none⟩) n c2) rfl 68 rfl (by kernel_rfl) (by kernel_rfl) (by kernel_rfl) (by kernel_rfl) (fun _ _ _ h => h) (fun w' _ => by kernel_rfl) hS ?_
          simp only [Act.put, List.setIfInBounds_toArray, List.set_cons_zero, List.set_cons_succ]
          refine h_take 5 (.int .i64 (n : Int)) rfl 69 rfl (by kernel_rfl) (by kernel_rfl) (by kernel_rfl) (by kernel_rfl) (fun _ _ _ h => h) (fun w' _ => run_op_lenK _ _ _ rfl fS.und _ _ _ rfl w') hS ?_
          simp only [Act.put, List.setIfInBounds_toArray, List.set_cons_zero, List.set_cons_succ]
          refine h_take 6 (.bool false) rfl 70 rfl (by kernel_rfl) (by kernel_rfl) (by kernel_rfl) (by kernel_rfl) (fun _ _ _ h => h) (fun w' _ => cmp_geq _ _ _ _ rfl .i64 (j : Int) (n : Int) rfl rfl false (decide_eq_false (by omega)) w') hS ?_
          simp only [Act.put, List.setIfInBounds_toArray, List.set_cons_zero, List.set_cons_succ]
          refine h_take 7 (.bool false) rfl 71 rfl (by kernel_rfl) (by kernel_rfl) (by kernel_rfl) (by kernel_rfl) (fun _ _ _ h => h) (fun w' _ => by kernel_rfl) hS ?_
          simp only [Act.put, List.setIfInBounds_toArray, List.set_cons_zero, List.set_cons_succ]
          refine h_take 8 (.bool false) rfl 72 rfl (by kernel_rfl) (by kernel_rfl) (by kernel_rfl) (by kernel_rfl) (fun _ _ _ h => h) (fun w' _ => by kernel_rfl) hS ?_
          simp only [Act.put, List.setIfInBounds_toArray, List.set_cons_zero, List.set_cons_succ]
          refine h_take 9 (.agg (scs u).toArray) rfl 73 rfl (by kernel_rfl) (by kernel_rfl) (by kernel_rfl) (by kernel_rfl) (fun _ _ _ h => h) (fun w' hC => run_op_load _ _ rfl U 0 rfl (scs u) ((Has.refl _).range (rU305.old hC)) (sz_sta KU.out)) hS ?_
          simp only [Act.put, List.setIfInBounds_toArray, List.set_cons_zero, List.set_cons_succ]
          refine h_take 11 (.slice (some ⟨gk, ok2, none⟩) n kc) rfl 75 rfl (by kernel_rfl) (by kernel_rfl) (by kernel_rfl) (by kernel_rfl) (fun _ _ _ h => h) (fun w' _ => by kernel_rfl) hS ?_
          simp only [Act.put, List.setIfInBounds_toArray, List.set_cons_zero, List.set_cons_succ]
          refine h_take 12 (.int .i64 (j : Int)) rfl 76 rfl (by kernel_rfl) (by kernel_rfl) (by kernel_rfl) (by kernel_rfl) (fun _ _ _ h => h) (fun w' _ => by kernel_rfl) hS ?_
          simp only [Act.put, List.setIfInBounds_toArray, List.set_cons_zero, List.set_cons_succ]
          refine h_take 13 (.pointer (some ⟨gk, ok2 + j * 65, none⟩)) rfl 77 rfl (by kernel_rfl) (by kernel_rfl) (by kernel_rfl) (by kernel_rfl) (fun _ _ _ h => h) (fun w' _ => run_op_index fK _ _ rfl gk ok2 _ _ rfl .i64 _ rfl j rfl hjl w') hS ?_
          simp only [Act.put, List.setIfInBounds_toArray, List.set_cons_zero, List.set_cons_succ]
          refine h_take 14 (.agg (kcs ku).toArray) rfl 78 rfl (by kernel_rfl) (by kernel_rfl) (by kernel_rfl) (by kernel_rfl) (fun _ _ _ h => h) (fun w' hC => run_op_load _ _ rfl gk (ok2 + j * 65) rfl (kcs ku) (range_block RK.out ((below_step bel305 bel305.size hC).block gk HGK.out)) (sz_key KKU.out)) hS ?_
          simp only [Act.put, List.setIfInBounds_toArray, List.set_cons_zero, List.set_cons_succ]
          refine h_one (i := 10) (by kernel_rfl) (o_call rfl 74 rfl (by kernel_rfl) (run_op_call 12 _ _ rfl #[.agg (scs u).toArray] (by simp only [List.map_toArray, List.map_cons, List.map_nil]; rfl) Tryd.func12 (by kernel_rfl) (by kernel_rfl) _) (CO.out yz (HKW.out _ (below_step BR.out BR.out.size (below_step bel305 bel305.size hS)))) ?_)
          rintro e yz1 ⟨rfl, hB⟩
          have hS1 : Below v304.heap.size v304 yz1 := below_step hS hS.size hB
          clear hB hS
          refine ⟨_, rfl, hS1, ?_⟩
          simp only [Act.put, List.setIfInBounds_toArray, List.set_cons_zero, List.set_cons_succ]
          refine h_take 15 (.bool false) rfl 79 rfl (by kernel_rfl) (by kernel_rfl) (by kernel_rfl) (by kernel_rfl) (fun _ _ _ h => h) (fun w' _ => run_op_neqK KKU.out KKU.out _ _ _ rfl rfl rfl true (by simp) w') hS1 ?_
          simp only [Act.put, List.setIfInBounds_toArray, List.set_cons_zero, List.set_cons_succ]
          refine h_take 16 (.bool false) rfl 80 rfl (by kernel_rfl) (by kernel_rfl) (by kernel_rfl) (by kernel_rfl) (fun _ _ _ h => h) (fun w' _ => by kernel_rfl) hS1 ?_
          simp only [Act.put, List.setIfInBounds_toArray, List.set_cons_zero, List.set_cons_succ]
          refine wpAnyH_done (by kernel_rfl) ?_ _
          go_wp2_with fail
          go_meet
          exact ⟨rfl, rA305.old hS1, rU305.old hS1, below_step bel305 bel305.size hS1⟩
        case rest =>
          obtain ⟨rfl, rA1, rU1, bel1⟩ := hcut
          clear rA305 rU305 bel305 RK HAK HKJ HGK GLT CF RAr
          by_cases h1 : I < 0
          · skip
            have eI1 : decide (I < (0 : Int)) = true := decide_eq_true (by omega)
            clear h1
            go_wp2_with fail
            go_ret
            exact ⟨rfl, (below_step BR.out BR.out.size bel1)⟩
          by_cases h2 : (ln : Int) ≤ I
          · skip
            have eI1 : decide (I < (0 : Int)) = false := decide_eq_false (by omega)
            have eI2 : decide ((ln : Int) ≤ I) = true := decide_eq_true (by omega)
            have eI3 : decide (I ≥ (ln : Int)) = true := decide_eq_true (by omega)
            clear h2 h1
            go_wp2_with fail
            go_ret
            exact ⟨rfl, (below_step BR.out BR.out.size bel1)⟩
          by_cases h3 : J < 0
          · skip
            have eI1 : decide (I < (0 : Int)) = false := decide_eq_false (by omega)
            have eI2 : decide ((ln : Int) ≤ I) = false := decide_eq_false (by omega)
            have eI3 : decide (I ≥ (ln : Int)) = false := decide_eq_false (by omega)
            have eJ1 : decide (J < (0 : Int)) = true := decide_eq_true (by omega)
            clear h3 h1 h2
            go_wp2_with fail
            go_ret
            exact ⟨rfl, (below_step BR.out BR.out.size bel1)⟩
          by_cases h4 : (ln : Int) ≤ J
          · skip
            have eI1 : decide (I < (0 : Int)) = false := decide_eq_false (by omega)
            have eI2 : decide ((ln : Int) ≤ I) = false := decide_eq_false (by omega)
            have eI3 : decide (I ≥ (ln : Int)) = false := decide_eq_false (by omega)
            have eJ1 : decide (J < (0 : Int)) = false := decide_eq_false (by omega)
            have eJ2 : decide ((ln : Int) ≤ J) = true := decide_eq_true (by omega)
            have eJ3 : decide (J ≥ (ln : Int)) = true := decide_eq_true (by omega)
            clear h4 h1 h2 h3
            go_wp2_with fail
            go_ret
            exact ⟨rfl, (below_step BR.out BR.out.size bel1)⟩
          obtain ⟨i, rfl⟩ := Int.eq_ofNat_of_zero_le (show (0 : Int) ≤ I by omega)
          obtain ⟨k, rfl⟩ := Int.eq_ofNat_of_zero_le (show (0 : Int) ≤ J by omega)
          have hil : i < ln := by omega
          have hkl : k < ln := by omega
          have eI1 : decide ((i : Int) < (0 : Int)) = false := decide_eq_false (by omega)
          have eI2 : decide ((ln : Int) ≤ (i : Int)) = false := decide_eq_false (by omega)
          have eI3 : decide (ln ≤ i) = false := decide_eq_false (by omega)
          have eJ1 : decide ((k : Int) < (0 : Int)) = false := decide_eq_false (by omega)
          have eJ2 : decide ((ln : Int) ≤ (k : Int)) = false := decide_eq_false (by omega)
          have eJ3 : decide (ln ≤ k) = false := decide_eq_false (by omega)
          clear h1 h2 h3 h4
          obtain ⟨si, hsi⟩ : ∃ s, l[i]? = some s := ⟨_, List.getElem?_eq_getElem (by have := HLN.out; omega)⟩
          obtain ⟨sk, hsk⟩ : ∃ s, l[k]? = some s := ⟨_, List.getElem?_eq_getElem (by have := HLN.out; omega)⟩
          have KI := Lib.hid (HS.out.ok si (List.mem_of_getElem? hsi)); have KJ := Lib.hid (HS.out.ok sk (List.mem_of_getElem? hsk))
          have hmem := fun x => swap_mem (l := l) hsi hsk (x := x)
          have hks := HMK.out (swapL l i k si sk) (fun x => hmem x)
          have kv : (foldF t (swapL l i k si sk)).1.Ok := fold_ok KT.out (fun s hs => HS.out.ok s ((hmem s).1 hs))
          have CF2 : Hid (∀ w0 p c, At kS w0 p (swapL l i k si sk) → w0.rangeAt 0 0 (u32s ks) → Calls Tryd.prog 14 #[.agg (scs t).toArray, .slice p ln c] w0 fun e w' => e = .returned (.tuple #[.agg (scs (foldF t (swapL l i k si sk)).1).toArray, .int .i64 (((foldF t (swapL l i k si sk)).2 : Nat) : Int)]) ∧ Below w0.heap.size w0 w') := Lib.hid fun w0 p c h hk => by
            have c1 := fold_any t (swapL l i k si sk) p c w0 KT.out RTT.out h (fun s hs => RTL.out s (List.mem_cons_of_mem _ ((hmem s).1 hs))) (by rw [swap_len]; have := HLN.out; have := HL1.out; omega) hk
            rw [swap_len, ← HLN.out] at c1
            exact c1
          have CO2 := Lib.hid (fun w0 h => of_any (foldF t (swapL l i k si sk)).1 w0 kv h)
          rw [hks] at CO2
          have HSI := Lib.hid hsi; have HSK := Lib.hid hsk; have KV := Lib.hid kv
          have HMS : Hid ((l.set i sk).set k si = swapL l i k si sk) := Lib.hid rfl
          have HLE : Hid (([] ++ l : List Sta).length = ln) := Lib.hid (by have := HLN.out; simp; omega)
          generalize swapL l i k si sk = ml at CF2 CO2 HMS KV
          generalize foldF t ml = vv at CF2 CO2 KV
          obtain ⟨v, vn⟩ := vv
          simp only at CF2 CO2 KV
          clear hmem hks kv hsi hsk HMK PALL OKT
          go_wp2_with (first
            | ((with_reducible refine at_slot 99 ?_); (refine arm_lit (K := kS) (o := ⟨some 99, _, _, _, _, _⟩) rfl fS [] allOk_nil (by simp) _ _ rfl rfl (by simp only [List.map_toArray, List.map_nil]; rfl) ?_); intro M v5 Me hM nM)
            | ((with_reducible refine at_slot 101 ?_); (refine arm_appendQ (K := kS) (o := ⟨some 101, _, _, _, _, _⟩) rfl fS _ _ rfl (wr.heap.size) (some ⟨M, 0, none⟩) _ 0 [] rfl rfl (Sl.Own.row fS allOk_nil (by have := Me.out; have := bel1.size; omega) (by simp) hM) _ _ _ l rfl HLN.out ((HS.out.below (below_step BR.out BR.out.size bel1)).below nM.below) (by have := HLN.out; have := HL1.out; simp only [List.length_nil]; omega) (by have := bel1.size; have := nM.size; omega) ?_); intro p5 c5 v6 hO hBZ hkp hat; rw [HLE.out]))
          rw [List.nil_append] at hO
          have nAM : A ≠ M := by have := Me.out; have := rA1.lt; omega
          have nUM : U ≠ M := by have := Me.out; have := rU1.lt; omega
          have rA2 : Row v6 A 35 (scs t) := (hkp.out A (by have := nM.size; have := rA1.lt; omega) (fun e => nAM (by have h1 : M = A := Option.some.inj e; omega))).trans (rA1.old nM.below)
          have rU2 : Row v6 U 35 (scs u) := (hkp.out U (by have := nM.size; have := rU1.lt; omega) (fun e => nUM (by have h1 : M = U := Option.some.inj e; omega))).trans (rU1.old nM.below)
          have bel2 : Below wr.heap.size wr v6 := (below_step bel1 bel1.size nM.below).trans hBZ
          have pA : bk p5 ≠ some A := fun e => by
            rcases hat.out with h | h
            · rw [h] at e; exact nAM (by have h1 : M = A := Option.some.inj e; omega)
            · rw [h] at e; have h1 : v5.heap.size = A := Option.some.inj e; have := nM.size; have := rA1.lt; omega
          have pU : bk p5 ≠ some U := fun e => by
            rcases hat.out with h | h
            · rw [h] at e; exact nUM (by have h1 : M = U := Option.some.inj e; omega)
            · rw [h] at e; have h1 : v5.heap.size = U := Option.some.inj e; have := nM.size; have := rU1.lt; omega
          obtain ⟨G, cs5, hp5, lG, rG, hf1, hput⟩ := hO.put fS (i := i) (b := sk) (by have := HLN.out; omega) KJ.out
          subst hp5
          have nGA : G ≠ A := fun e => pA (by rw [← e]; rfl)
          have nGU : G ≠ U := fun e => pU (by rw [← e]; rfl)
          have HPUT := Lib.hid hput; have HF1 := Lib.hid hf1; have LG := Lib.hid lG
          have KE := Lib.hid ((hO.at fS))
          clear Me hM nM hBZ hkp hat nAM nUM rA1 rU1 bel1 pA pU hput hf1
          refine wp_region_held (S := fun _ => True) (by kernel_rfl) ?_
          change wpAnyH _ _ _ _ _ _ _ _ v6.drew
          have atz : At kS v6.drew (some ⟨G, 0, none⟩) l := KE.out.below ((Below.refl _ _).drew)
          have rAz : Row v6.drew A 35 (scs t) := rA2
          have rUz : Row v6.drew U 35 (scs u) := rU2
          have rGz : Row v6.drew G kS.t cs5 := rG
          have belz : Below wr.heap.size wr v6.drew := bel2.trans ((Below.refl _ _).drew)
          clear rA2 rU2 rG bel2 hO KE
          generalize v6.drew = yz at atz rAz rUz rGz belz ⊢
          refine h_take 0 (.slice (some ⟨G, 0, none⟩) ln c5) rfl 102 rfl (by kernel_rfl) (by kernel_rfl) (by kernel_rfl) (by kernel_rfl) (fun _ _ _ h => h) (fun w' _ => by kernel_rfl) trivial ?_
          simp only [Act.put, List.setIfInBounds_toArray, List.set_cons_zero, List.set_cons_succ]
          refine h_take 1 (.int .i64 (i : Int)) rfl 103 rfl (by kernel_rfl) (by kernel_rfl) (by kernel_rfl) (by kernel_rfl) (fun _ _ _ h => h) (fun w' _ => by kernel_rfl) trivial ?_
          simp only [Act.put, List.setIfInBounds_toArray, List.set_cons_zero, List.set_cons_succ]
          refine h_take 2 (.slice (some ⟨G, 0, none⟩) ln c5) rfl 104 rfl (by kernel_rfl) (by kernel_rfl) (by kernel_rfl) (by kernel_rfl) (fun _ _ _ h => h) (fun w' _ => by kernel_rfl) trivial ?_
          simp only [Act.put, List.setIfInBounds_toArray, List.set_cons_zero, List.set_cons_succ]
          refine h_take 3 (.int .i64 (k : Int)) rfl 105 rfl (by kernel_rfl) (by kernel_rfl) (by kernel_rfl) (by kernel_rfl) (fun _ _ _ h => h) (fun w' _ => by kernel_rfl) trivial ?_
          simp only [Act.put, List.setIfInBounds_toArray, List.set_cons_zero, List.set_cons_succ]
          refine h_take 4 (.slice (some ⟨G, 0, none⟩) ln c5) rfl 106 rfl (by kernel_rfl) (by kernel_rfl) (by kernel_rfl) (by kernel_rfl) (fun _ _ _ h => h) (fun w' _ => by kernel_rfl) trivial ?_
          simp only [Act.put, List.setIfInBounds_toArray, List.set_cons_zero, List.set_cons_succ]
          refine h_take 5 (.int .i64 (k : Int)) rfl 107 rfl (by kernel_rfl) (by kernel_rfl) (by kernel_rfl) (by kernel_rfl) (fun _ _ _ h => h) (fun w' _ => by kernel_rfl) trivial ?_
          simp only [Act.put, List.setIfInBounds_toArray, List.set_cons_zero, List.set_cons_succ]
          refine h_take 6 (.pointer (some ⟨G, 0 + k * 363, none⟩)) rfl 108 rfl (by kernel_rfl) (by kernel_rfl) (by kernel_rfl) (by kernel_rfl) (fun _ _ _ h => h) (fun w' _ => run_op_index fS _ _ rfl G 0 _ _ rfl .i64 _ rfl k rfl hkl w') trivial ?_
          simp only [Act.put, List.setIfInBounds_toArray, List.set_cons_zero, List.set_cons_succ]
          refine h_take 8 (.slice (some ⟨G, 0, none⟩) ln c5) rfl 110 rfl (by kernel_rfl) (by kernel_rfl) (by kernel_rfl) (by kernel_rfl) (fun _ _ _ h => h) (fun w' _ => by kernel_rfl) trivial ?_
          simp only [Act.put, List.setIfInBounds_toArray, List.set_cons_zero, List.set_cons_succ]
          refine h_take 9 (.int .i64 (i : Int)) rfl 111 rfl (by kernel_rfl) (by kernel_rfl) (by kernel_rfl) (by kernel_rfl) (fun _ _ _ h => h) (fun w' _ => by kernel_rfl) trivial ?_
          simp only [Act.put, List.setIfInBounds_toArray, List.set_cons_zero, List.set_cons_succ]
          refine h_take 10 (.pointer (some ⟨G, 0 + i * 363, none⟩)) rfl 112 rfl (by kernel_rfl) (by kernel_rfl) (by kernel_rfl) (by kernel_rfl) (fun _ _ _ h => h) (fun w' _ => run_op_index fS _ _ rfl G 0 _ _ rfl .i64 _ rfl i rfl hil w') trivial ?_
          simp only [Act.put, List.setIfInBounds_toArray, List.set_cons_zero, List.set_cons_succ]
          refine h_two (i := 7) (j := 11) (by kernel_rfl) ?_ ?_
          · skip
            refine (o_value (.agg (scs sk).toArray) rfl 109 rfl (by kernel_rfl) (run_op_load _ _ rfl G (0 + k * 363) rfl (scs sk) (at_range atz HSK.out) (sz_sta KJ.out)) ?_)
            refine ⟨trivial, ?_⟩
            simp only [Act.put, List.setIfInBounds_toArray, List.set_cons_zero, List.set_cons_succ]
            refine h_one (i := 11) (by kernel_rfl) (o_value (.agg (scs si).toArray) rfl 113 rfl (by kernel_rfl) (run_op_load _ _ rfl G (0 + i * 363) rfl (scs si) (at_range atz HSI.out) (sz_sta KI.out)) ?_)
            refine ⟨trivial, ?_⟩
            simp only [Act.put, List.setIfInBounds_toArray, List.set_cons_zero, List.set_cons_succ]
            refine h_take 12 (.pointer (some ⟨G, 0 + i * 363, none⟩)) rfl 114 rfl (by kernel_rfl) (by kernel_rfl) (by kernel_rfl) (by kernel_rfl) (fun _ _ _ h => h) (fun w' _ => run_op_index fS _ _ rfl G 0 _ _ rfl .i64 _ rfl i rfl hil w') trivial ?_
            simp only [Act.put, List.setIfInBounds_toArray, List.set_cons_zero, List.set_cons_succ]
            refine h_one (i := 13) (by kernel_rfl) (o_skip rfl rfl (by kernel_rfl) (run_op_store _ _ _ rfl G (0 + i * 363) rfl (scs sk) rfl _ _ rGz (by rw [Nat.zero_add]; exact HF1.out) (scs_one _) (sz_sta KJ.out)) ?_)
            have rq := row_setRow rGz (lay cs5 (0 + i * 363) (scs sk))
            have oq := Only.setRow G yz (lay cs5 (0 + i * 363) (scs sk)).toArray
            generalize yz.setRow G (lay cs5 (0 + i * 363) (scs sk)).toArray = y3 at rq oq ⊢
            rw [Nat.zero_add] at rq
            have own3 := HPUT.out y3 rq
            have rA3 := rAz.only oq (Ne.symm nGA)
            have rU3 := rUz.only oq (Ne.symm nGU)
            have bel3 : Below wr.heap.size wr y3 := below_only belz oq LG.out belz.size
            obtain ⟨G2, cs6, e6, _, rG6, hf6, hput6⟩ := own3.put fS (i := k) (b := si) (by rw [List.length_set]; have := HLN.out; omega) KI.out
            obtain rfl : G = G2 := congrArg Addr.block (Option.some.inj e6)
            clear rAz rUz rGz belz atz oq rq own3 e6
            refine ⟨trivial, ?_⟩
            refine h_take 14 (.pointer (some ⟨G, 0 + k * 363, none⟩)) rfl 115 rfl (by kernel_rfl) (by kernel_rfl) (by kernel_rfl) (by kernel_rfl) (fun _ _ _ h => h) (fun w' _ => run_op_index fS _ _ rfl G 0 _ _ rfl .i64 _ rfl k rfl hkl w') trivial ?_
            simp only [Act.put, List.setIfInBounds_toArray, List.set_cons_zero, List.set_cons_succ]
            refine h_one (i := 15) (by kernel_rfl) (o_skip rfl rfl (by kernel_rfl) (run_op_store _ _ _ rfl G (0 + k * 363) rfl (scs si) rfl _ _ rG6 (by rw [Nat.zero_add]; exact hf6) (scs_one _) (sz_sta KI.out)) ?_)
            have rq := row_setRow rG6 (lay cs6 (0 + k * 363) (scs si))
            have oq := Only.setRow G y3 (lay cs6 (0 + k * 363) (scs si)).toArray
            generalize y3.setRow G (lay cs6 (0 + k * 363) (scs si)).toArray = y4 at rq oq ⊢
            rw [Nat.zero_add] at rq
            have own4 := hput6 y4 rq
            rw [HMS.out] at own4
            have rA4 := rA3.only oq (Ne.symm nGA)
            have rU4 := rU3.only oq (Ne.symm nGU)
            have bel4 : Below wr.heap.size wr y4 := below_only bel3 oq LG.out bel3.size
            clear rA3 rU3 bel3 oq rq rG6 hf6 hput6
            refine ⟨trivial, ?_⟩
            refine wpAnyH_done (by kernel_rfl) ?_ _
            go_wp2_with (first
              | ((with_reducible refine at_slot 117 ?_); (refine arm_load (o := ⟨some 117, _, _, _, _, _⟩) rfl _ _ rfl A 0 rfl (scs t) ((show Has (scs t) 0 (scs t) from Has.refl _).range (rA4)) (sz_sta KT.out) ?_)))
            have at4 := own4.at fS; clear own4
            refine (CF2.out _ (some ⟨G, 0, none⟩) c5 at4 (HKW.out _ (below_step BR.out BR.out.size bel4))).mono ?_
            rintro e y508 ⟨rfl, hB⟩
            have rA508 : Row y508 A 35 (scs t) := rA4.old hB
            have rU508 : Row y508 U 35 (scs u) := rU4.old hB
            have bel508 : Below wr.heap.size wr y508 := below_step bel4 bel4.size hB
            clear hB rA4 rU4 bel4
            clear at4
            go_wp2_with (first
              | ((with_reducible refine at_slot 19 ?_); (refine arm_alloc (o := ⟨some 19, _, _, _, _, _⟩) rfl _ rfl (scs zs) z_sta ?_); intro V v509 Ve hv509 nv509)
              | ((with_reducible refine arm_store (o := ⟨none, _, _, _, _, _⟩) rfl _ _ _ rfl V 0 rfl (scs v) rfl _ _ (hv509) (fitS KV.out) (scs_one _) (sz_sta KV.out) ?_); intro v510 hv510 ov510 sv510))
            have q0 := Ve.out
            have q1 := nv509.size
            have q2 := sv510.out
            have q3 := rA508.lt
            have q4 := rU508.lt
            have q5 := bel508.size
            have lV : wr.heap.size ≤ V := by omega
            have nAV : A ≠ V := by omega
            have nVA : V ≠ A := by omega
            have nUV : U ≠ V := by omega
            have nVU : V ≠ U := by omega
            have rA511 : Row v510 A 35 (scs t) := ((rA508.old nv509.below).only ov510 nAV)
            have rU511 : Row v510 U 35 (scs u) := ((rU508.old nv509.below).only ov510 nUV)
            have rV511 : Row v510 V 35 (scs v) := (hv510.congr (allS KV.out))
            have bel511 : Below wr.heap.size wr v510 := (below_only (below_step bel508 (by omega) nv509.below) ov510 lV (by omega))
            clear q0 q1 q2 q3 q4 q5 rA508 rU508 bel508 Ve hv509 nv509 hv510 ov510 sv510
            refine wp_region_quiet (C := fun w' => Below v510.heap.size v510 w') (by kernel_rfl) (by kernel_rfl) ((Below.refl _ _).drew) ?_
            rw [List.toList_toArray]
            refine q_value 122 rfl (.agg (scs v).toArray) (by kernel_rfl) (fun w' hC => run_op_load _ _ rfl V 0 rfl (scs v) ((Has.refl _).range (rV511.old hC)) (sz_sta KV.out)) ?_
            simp only [Act.put, List.setIfInBounds_toArray, List.set_cons_zero, List.set_cons_succ]
            refine q_call 123 rfl (.agg (kcs ku).toArray) 12 #[.agg (scs v).toArray] (by kernel_rfl) (fun w' _ => run_op_call _ _ _ rfl _ (by simp only [List.map_toArray, List.map_cons, List.map_nil]; rfl) Tryd.func12 (by kernel_rfl) (by kernel_rfl) w') (fun w' hC => (CO2.out w' (HKW.out _ (below_step BR.out BR.out.size (below_step bel511 bel511.size hC)))).mono fun e w'' h => ⟨h.1, below_step hC hC.size h.2⟩) ?_
            simp only [Act.put, List.setIfInBounds_toArray, List.set_cons_zero, List.set_cons_succ]
            refine q_value 124 rfl (.agg (scs u).toArray) (by kernel_rfl) (fun w' hC => run_op_load _ _ rfl U 0 rfl (scs u) ((Has.refl _).range (rU511.old hC)) (sz_sta KU.out)) ?_
            simp only [Act.put, List.setIfInBounds_toArray, List.set_cons_zero, List.set_cons_succ]
            refine q_call 125 rfl (.agg (kcs ku).toArray) 12 #[.agg (scs u).toArray] (by kernel_rfl) (fun w' _ => run_op_call _ _ _ rfl _ (by simp only [List.map_toArray, List.map_cons, List.map_nil]; rfl) Tryd.func12 (by kernel_rfl) (by kernel_rfl) w') (fun w' hC => (CO.out w' (HKW.out _ (below_step BR.out BR.out.size (below_step bel511 bel511.size hC)))).mono fun e w'' h => ⟨h.1, below_step hC hC.size h.2⟩) ?_
            simp only [Act.put, List.setIfInBounds_toArray, List.set_cons_zero, List.set_cons_succ]
            refine q_value 126 rfl (.bool true) (by kernel_rfl) (fun w' _ => run_op_eqlK KKU.out KKU.out _ _ _ rfl rfl rfl true (by simp) w') ?_
            simp only [Act.put, List.setIfInBounds_toArray, List.set_cons_zero, List.set_cons_succ]
            refine q_value 8 rfl (.bool true) (by kernel_rfl) (fun w' _ => by kernel_rfl) ?_
            simp only [Act.put, List.setIfInBounds_toArray, List.set_cons_zero, List.set_cons_succ]
            refine wpQuiet_nil ?_
            intro w9 hC
            go_wp2_with fail
            go_ret
            exact ⟨rfl, below_step BR.out BR.out.size (below_step bel511 bel511.size hC)⟩
          · skip
            refine (o_value (.agg (scs si).toArray) rfl 113 rfl (by kernel_rfl) (run_op_load _ _ rfl G (0 + i * 363) rfl (scs si) (at_range atz HSI.out) (sz_sta KI.out)) ?_)
            refine ⟨trivial, ?_⟩
            simp only [Act.put, List.setIfInBounds_toArray, List.set_cons_zero, List.set_cons_succ]
            refine h_one (i := 7) (by kernel_rfl) (o_value (.agg (scs sk).toArray) rfl 109 rfl (by kernel_rfl) (run_op_load _ _ rfl G (0 + k * 363) rfl (scs sk) (at_range atz HSK.out) (sz_sta KJ.out)) ?_)
            refine ⟨trivial, ?_⟩
            simp only [Act.put, List.setIfInBounds_toArray, List.set_cons_zero, List.set_cons_succ]
            refine h_take 12 (.pointer (some ⟨G, 0 + i * 363, none⟩)) rfl 114 rfl (by kernel_rfl) (by kernel_rfl) (by kernel_rfl) (by kernel_rfl) (fun _ _ _ h => h) (fun w' _ => run_op_index fS _ _ rfl G 0 _ _ rfl .i64 _ rfl i rfl hil w') trivial ?_
            simp only [Act.put, List.setIfInBounds_toArray, List.set_cons_zero, List.set_cons_succ]
            refine h_one (i := 13) (by kernel_rfl) (o_skip rfl rfl (by kernel_rfl) (run_op_store _ _ _ rfl G (0 + i * 363) rfl (scs sk) rfl _ _ rGz (by rw [Nat.zero_add]; exact HF1.out) (scs_one _) (sz_sta KJ.out)) ?_)
            have rq := row_setRow rGz (lay cs5 (0 + i * 363) (scs sk))
            have oq := Only.setRow G yz (lay cs5 (0 + i * 363) (scs sk)).toArray
            generalize yz.setRow G (lay cs5 (0 + i * 363) (scs sk)).toArray = y3 at rq oq ⊢
            rw [Nat.zero_add] at rq
            have own3 := HPUT.out y3 rq
            have rA3 := rAz.only oq (Ne.symm nGA)
            have rU3 := rUz.only oq (Ne.symm nGU)
            have bel3 : Below wr.heap.size wr y3 := below_only belz oq LG.out belz.size
            obtain ⟨G2, cs6, e6, _, rG6, hf6, hput6⟩ := own3.put fS (i := k) (b := si) (by rw [List.length_set]; have := HLN.out; omega) KI.out
            obtain rfl : G = G2 := congrArg Addr.block (Option.some.inj e6)
            clear rAz rUz rGz belz atz oq rq own3 e6
            refine ⟨trivial, ?_⟩
            refine h_take 14 (.pointer (some ⟨G, 0 + k * 363, none⟩)) rfl 115 rfl (by kernel_rfl) (by kernel_rfl) (by kernel_rfl) (by kernel_rfl) (fun _ _ _ h => h) (fun w' _ => run_op_index fS _ _ rfl G 0 _ _ rfl .i64 _ rfl k rfl hkl w') trivial ?_
            simp only [Act.put, List.setIfInBounds_toArray, List.set_cons_zero, List.set_cons_succ]
            refine h_one (i := 15) (by kernel_rfl) (o_skip rfl rfl (by kernel_rfl) (run_op_store _ _ _ rfl G (0 + k * 363) rfl (scs si) rfl _ _ rG6 (by rw [Nat.zero_add]; exact hf6) (scs_one _) (sz_sta KI.out)) ?_)
            have rq := row_setRow rG6 (lay cs6 (0 + k * 363) (scs si))
            have oq := Only.setRow G y3 (lay cs6 (0 + k * 363) (scs si)).toArray
            generalize y3.setRow G (lay cs6 (0 + k * 363) (scs si)).toArray = y4 at rq oq ⊢
            rw [Nat.zero_add] at rq
            have own4 := hput6 y4 rq
            rw [HMS.out] at own4
            have rA4 := rA3.only oq (Ne.symm nGA)
            have rU4 := rU3.only oq (Ne.symm nGU)
            have bel4 : Below wr.heap.size wr y4 := below_only bel3 oq LG.out bel3.size
            clear rA3 rU3 bel3 oq rq rG6 hf6 hput6
            refine ⟨trivial, ?_⟩
            refine wpAnyH_done (by kernel_rfl) ?_ _
            go_wp2_with (first
              | ((with_reducible refine at_slot 117 ?_); (refine arm_load (o := ⟨some 117, _, _, _, _, _⟩) rfl _ _ rfl A 0 rfl (scs t) ((show Has (scs t) 0 (scs t) from Has.refl _).range (rA4)) (sz_sta KT.out) ?_)))
            have at4 := own4.at fS; clear own4
            refine (CF2.out _ (some ⟨G, 0, none⟩) c5 at4 (HKW.out _ (below_step BR.out BR.out.size bel4))).mono ?_
            rintro e y512 ⟨rfl, hB⟩
            have rA512 : Row y512 A 35 (scs t) := rA4.old hB
            have rU512 : Row y512 U 35 (scs u) := rU4.old hB
            have bel512 : Below wr.heap.size wr y512 := below_step bel4 bel4.size hB
            clear hB rA4 rU4 bel4
            clear at4
            go_wp2_with (first
              | ((with_reducible refine at_slot 19 ?_); (refine arm_alloc (o := ⟨some 19, _, _, _, _, _⟩) rfl _ rfl (scs zs) z_sta ?_); intro V v513 Ve hv513 nv513)
              | ((with_reducible refine arm_store (o := ⟨none, _, _, _, _, _⟩) rfl _ _ _ rfl V 0 rfl (scs v) rfl _ _ (hv513) (fitS KV.out) (scs_one _) (sz_sta KV.out) ?_); intro v514 hv514 ov514 sv514))
            have q0 := Ve.out
            have q1 := nv513.size
            have q2 := sv514.out
            have q3 := rA512.lt
            have q4 := rU512.lt
            have q5 := bel512.size
            have lV : wr.heap.size ≤ V := by omega
            have nAV : A ≠ V := by omega
            have nVA : V ≠ A := by omega
            have nUV : U ≠ V := by omega
            have nVU : V ≠ U := by omega
            have rA515 : Row v514 A 35 (scs t) := ((rA512.old nv513.below).only ov514 nAV)
            have rU515 : Row v514 U 35 (scs u) := ((rU512.old nv513.below).only ov514 nUV)
            have rV515 : Row v514 V 35 (scs v) := (hv514.congr (allS KV.out))
            have bel515 : Below wr.heap.size wr v514 := (below_only (below_step bel512 (by omega) nv513.below) ov514 lV (by omega))
            clear q0 q1 q2 q3 q4 q5 rA512 rU512 bel512 Ve hv513 nv513 hv514 ov514 sv514
            refine wp_region_quiet (C := fun w' => Below v514.heap.size v514 w') (by kernel_rfl) (by kernel_rfl) ((Below.refl _ _).drew) ?_
            rw [List.toList_toArray]
            refine q_value 122 rfl (.agg (scs v).toArray) (by kernel_rfl) (fun w' hC => run_op_load _ _ rfl V 0 rfl (scs v) ((Has.refl _).range (rV515.old hC)) (sz_sta KV.out)) ?_
            simp only [Act.put, List.setIfInBounds_toArray, List.set_cons_zero, List.set_cons_succ]
            refine q_call 123 rfl (.agg (kcs ku).toArray) 12 #[.agg (scs v).toArray] (by kernel_rfl) (fun w' _ => run_op_call _ _ _ rfl _ (by simp only [List.map_toArray, List.map_cons, List.map_nil]; rfl) Tryd.func12 (by kernel_rfl) (by kernel_rfl) w') (fun w' hC => (CO2.out w' (HKW.out _ (below_step BR.out BR.out.size (below_step bel515 bel515.size hC)))).mono fun e w'' h => ⟨h.1, below_step hC hC.size h.2⟩) ?_
            simp only [Act.put, List.setIfInBounds_toArray, List.set_cons_zero, List.set_cons_succ]
            refine q_value 124 rfl (.agg (scs u).toArray) (by kernel_rfl) (fun w' hC => run_op_load _ _ rfl U 0 rfl (scs u) ((Has.refl _).range (rU515.old hC)) (sz_sta KU.out)) ?_
            simp only [Act.put, List.setIfInBounds_toArray, List.set_cons_zero, List.set_cons_succ]
            refine q_call 125 rfl (.agg (kcs ku).toArray) 12 #[.agg (scs u).toArray] (by kernel_rfl) (fun w' _ => run_op_call _ _ _ rfl _ (by simp only [List.map_toArray, List.map_cons, List.map_nil]; rfl) Tryd.func12 (by kernel_rfl) (by kernel_rfl) w') (fun w' hC => (CO.out w' (HKW.out _ (below_step BR.out BR.out.size (below_step bel515 bel515.size hC)))).mono fun e w'' h => ⟨h.1, below_step hC hC.size h.2⟩) ?_
            simp only [Act.put, List.setIfInBounds_toArray, List.set_cons_zero, List.set_cons_succ]
            refine q_value 126 rfl (.bool true) (by kernel_rfl) (fun w' _ => run_op_eqlK KKU.out KKU.out _ _ _ rfl rfl rfl true (by simp) w') ?_
            simp only [Act.put, List.setIfInBounds_toArray, List.set_cons_zero, List.set_cons_succ]
            refine q_value 8 rfl (.bool true) (by kernel_rfl) (fun w' _ => by kernel_rfl) ?_
            simp only [Act.put, List.setIfInBounds_toArray, List.set_cons_zero, List.set_cons_succ]
            refine wpQuiet_nil ?_
            intro w9 hC
            go_wp2_with fail
            go_ret
            exact ⟨rfl, below_step BR.out BR.out.size (below_step bel515 bel515.size hC)⟩
  · rw [decide_eq_false hr] at CRt
    clear hr hln hll
    go_enter Tryd.func4, Tryd.ntmps4
    go_wp2_with (first
      | ((with_reducible refine at_slot 4 ?_); (refine arm_box (o := ⟨some 4, _, _, _, _, _⟩) rfl _ _ rfl (scs t) rfl ?_); intro A v1 Ae hv1 nv1))
    have q0 := Ae.out
    have q1 := nv1.size
    have lA : w.heap.size ≤ A := by omega
    have rA2 : Row v1 A 35 (scs t) := hv1
    have bel2 : Below w.heap.size w v1 := (below_step (Below.refl _ _) (by omega) nv1.below)
    clear q0 q1 Ae hv1 nv1
    refine (CA.out _ (HKW.out _ bel2)).mono ?_
    rintro e y3 ⟨rfl, hB⟩
    have rA3 : Row y3 A 35 (scs t) := rA2.old hB
    have bel3 : Below w.heap.size w y3 := below_step bel2 bel2.size hB
    clear hB rA2 bel2
    go_wp2_with (first
      | ((with_reducible refine at_slot 23 ?_); (refine arm_load (o := ⟨some 23, _, _, _, _, _⟩) rfl _ _ rfl A 0 rfl (scs t) ((show Has (scs t) 0 (scs t) from Has.refl _).range (rA3)) (sz_sta KT.out) ?_))
      | ((with_reducible refine at_slot 24 ?_); (refine arm_lit (K := kS) (o := ⟨some 24, _, _, _, _, _⟩) rfl fS [t] (allOk_cons KT.out allOk_nil) (by simp) _ _ rfl rfl (by simp only [List.map_toArray, List.map_cons, List.map_nil]; rfl) ?_); intro Q vq Qe hvq nvq)
      | ((with_reducible refine at_slot 26 ?_); (refine arm_appendB (K := kS) (o := ⟨some 26, _, _, _, _, _⟩) rfl fS _ _ rfl (w.heap.size) (some ⟨Q, 0, none⟩) _ 1 ([t]) rfl rfl (Sl.Own.row (base := w.heap.size) fS (allOk_cons KT.out allOk_nil) (by have := Qe.out; have := bel3.size; omega) (by simp [maxLen]) hvq) (_) _ _ (l) rfl HLN.out ((HS.out.below bel3).below nvq.below) (by have := HBY.out; simp only [List.length_cons, List.length_nil, maxLen]; omega) (by have := HBY.out; simp only [List.length_cons, List.length_nil]; omega) (by have := bel3.size; have := nvq.size; omega) ?_); intro p2 c2 vz hO hBZ hkp hat; rw [HLL.out]))
    have qA := rA3.lt
    have nAQ : A ≠ Q := by have := Qe.out; omega
    have belz : Below w.heap.size w vz := (below_step bel3 bel3.size nvq.below).trans hBZ
    have rAz : Row vz A 35 (scs t) := (hkp.out A (by have := nvq.size; omega) (fun e => nAQ (by have h1 : Q = A := Option.some.inj e; omega))).trans (rA3.old nvq.below)
    clear rA3 bel3 qA nAQ Qe hvq nvq hBZ hkp hat
    have hAl := hO.at fS; clear hO
    go_wp2_with fail
    refine (CRt.out _ p2 c2 hAl).mono ?_
    rintro e y4 ⟨rfl, hB⟩
    have rA4 : Row y4 A 35 (scs t) := rAz.old hB
    have hAl4 := hAl.below hB
    have bel4 : Below w.heap.size w y4 := below_step belz belz.size hB
    clear hB rAz hAl belz
    go_wp2_with fail
    go_ret
    exact ⟨rfl, bel4⟩
end Go.Proofs.YtffpifljeeikfaaDoor.Cz
