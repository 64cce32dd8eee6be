/-
  The contract of right of layer 13's statements: whether all states are right, and few. Over this seat's translation.
-/
import Derived.Test.YtffpifljeeikfaaGreatDoorChoMem
import Derived.Test.YtffpifljeeikfaaGreatDoorChoOwn
import Derived.Test.YtffpifljeeikfaaGreatDoorStaRRight
namespace Go.Proofs.YtffpifljeeikfaaGreatDoor.Cz
open Go.ChangeShapes Go.WideShapes Go.ChangeAt Go.RowKit Go.Proofs.YtffpifljeeikfaaGreatDoor.Mem Go.Proofs.YtffpifljeeikfaaGreatDoor.Bt Go.Proofs.YtffpifljeeikfaaGreatDoor.Sa Go.Proofs.YtffpifljeeikfaaGreatDoor.Sl
open Go.Proofs.YtffpifljeeikfaaGreatDoor.Od (Ky kcs kcmp kval keyN keyN_ok cmpN_neg cmpN_pos sz_key)
open Go.Proofs.YtffpifljeeikfaaGreatDoor.Lk (kS fS)
open Go.Proofs.YtffpifljeeikfaaGreatDoor.Wn (wcs WRt)
open Go.Proofs.YtffpifljeeikfaaGreatDoor.Ep (H32 zh zh_ok num32 Has h_len one_app one_num szH zH fitH allH)
open Go.Proofs.YtffpifljeeikfaaGreatDoor.Sha (ks)
set_option linter.unusedVariables false
set_option linter.unusedSimpArgs false

/-- All are right, and few. -/
def RtL (l : List Sta) : Prop := (∀ s ∈ l, SRt s) ∧ l.length ≤ 20
instance (l : List Sta) : Decidable (RtL l) := by unfold RtL; infer_instance
structure RiRel (w : World) (l : List Sta) (i : Value) (wr : World) : Prop where
  ex : ∃ k : Nat, k ≤ l.length ∧ i = .int .i64 (k : Int) ∧ ∀ s ∈ l.take k, SRt s
  bel : Below w.heap.size w wr
theorem rt_snoc {l : List Sta} {k : Nat} {s : Sta} (h : ∀ x ∈ l.take k, SRt x) (hk : l[k]? = some s) (hs : SRt s) : ∀ x ∈ l.take (k + 1), SRt x := fun x hx => by
  rw [← take_snoc hk] at hx
  rcases List.mem_append.1 hx with hx | hx
  · exact h x hx
  · rw [List.mem_singleton.1 hx]; exact hs
set_option maxHeartbeats 4000000 in
set_option maxRecDepth 100000 in
theorem right13_any (l : List Sta) (P : Option Addr) (pc : Nat) (w : World) (hs : At kS w P l) (hm : l.length ≤ maxLen) :
    Calls Tryz.prog 5 #[.slice P l.length pc] w fun e w' => e = .returned (.bool (decide (RtL l))) ∧ Below w.heap.size w w' := by
  have HS := Lib.hid hs
  have CO := Lib.hid (fun s w0 (k : s.Ok) => own13_any s w0 k)
  have CR := Lib.hid (fun s w0 (k : s.Ok) => rright_any s w0 k)
  have HM : Hid (l.length ≤ 9223372036854775807) := Lib.hid hm
  obtain ⟨v, hv⟩ : ∃ v, v = decide (RtL l) := ⟨_, rfl⟩
  rw [← hv]
  have HV := Lib.hid hv
  have h0 : RiRel w l (.int .i64 0) w := ⟨⟨0, by omega, rfl, fun s hs => by simp at hs⟩, Below.refl _ _⟩
  clear hs hm hv
  go_enter Tryz.func5, Tryz.ntmps5
  go_wp2_with fail
  go_loopw [7] (fun i wr => RiRel w l i wr) (fun i _ => l.length - (intOf i).toNat)
  case atStart => exact h0
  case round =>
    clear h0
    obtain ⟨⟨k, hk, rfl, hall⟩, bel⟩ := hrel
    have HA := Lib.hid hall; clear hall
    by_cases hlt : k < l.length
    · obtain ⟨s, g, q, ht, ks', hP, hgl, hrs⟩ := HS.out.get hlt
      subst hP
      have RT := Lib.hid (range_block hrs (bel.block g hgl)); have KS := Lib.hid ks'; have HT := Lib.hid ht
      have COs := Lib.hid (fun w0 => CO.out s w0 ks'); have CRs := Lib.hid (fun w0 => CR.out s w0 ks')
      have ik : (k : Int) < (l.length : Int) := by omega
      clear hrs ks' ht CO CR
      by_cases hr : SRt s
      · rw [decide_eq_true hr] at CRs
        have HN := Lib.hid (rt_snoc HA.out HT.out hr)
        clear hr
        go_wp2_with (first
          | ((with_reducible refine at_slot 9 ?_); (refine arm_want (.pointer (some ⟨g, q + k * 363, none⟩)) 9 rfl (by kernel_rfl) (run_op_index fS _ _ rfl g q _ _ rfl .i64 _ rfl k rfl hlt _) ?_))
          | ((with_reducible refine at_slot 10 ?_); (refine arm_load (o := ⟨some 10, _, _, _, _, _⟩) rfl _ _ rfl g (q + k * 363) rfl (scs s) (RT.out) (sz_sta KS.out) ?_))
          | ((with_reducible refine at_slot 4 ?_); (refine arm_alloc (o := ⟨some 4, _, _, _, _, _⟩) rfl _ rfl (scs zs) z_sta ?_); intro X v101 Xe hv101 nv101)
          | ((with_reducible refine arm_store (o := ⟨none, _, _, _, _, _⟩) rfl _ _ _ rfl X 0 rfl (scs s) rfl _ _ (hv101) (fitS KS.out) (scs_one _) (sz_sta KS.out) ?_); intro v102 hv102 ov102 sv102)
          | ((with_reducible refine at_slot 11 ?_); (refine arm_load (o := ⟨some 11, _, _, _, _, _⟩) rfl _ _ rfl X 0 rfl (scs s) ((show Has (scs s) 0 (scs s) from Has.refl _).range ((hv102.congr (allS KS.out)))) (sz_sta KS.out) ?_)))
        have q0 := Xe.out
        have q1 := nv101.size
        have q2 := sv102.out
        have q3 := bel.size
        have lX : w.heap.size ≤ X := by omega
        have rX103 : Row v102 X 35 (scs s) := (hv102.congr (allS KS.out))
        have bel103 : Below w.heap.size w v102 := (below_only (below_step bel (by omega) nv101.below) ov102 lX (by omega))
        clear q0 q1 q2 q3 bel Xe hv101 nv101 hv102 ov102 sv102
        refine (COs.out _).mono ?_
        rintro e y104 ⟨rfl, hB⟩
        have rX104 : Row y104 X 35 (scs s) := rX103.old hB
        have bel104 : Below w.heap.size w y104 := below_step bel103 bel103.size hB
        clear hB rX103 bel103
        go_wp2_with fail
        refine (CRs.out _).mono ?_
        rintro e y105 ⟨rfl, hB⟩
        have rX105 : Row y105 X 35 (scs s) := rX104.old hB
        have bel105 : Below w.heap.size w y105 := below_step bel104 bel104.size hB
        clear hB rX104 bel104
        clear rX105
        have hkM : k < 9223372036854775807 := by have := HM.out; omega
        go_wp2_with fail
        go_roundw
        case rel => exact ⟨⟨k + 1, by omega, by go_num, HN.out⟩, bel105⟩
        case measure => simp [intOf]; omega
      · rw [decide_eq_false hr] at CRs
        have HQ : Hid (v = false) := Lib.hid (by rw [HV.out]; exact decide_eq_false (fun g => hr (g.1 s (List.mem_of_getElem? HT.out))))
        clear hr
        go_wp2_with (first
          | ((with_reducible refine at_slot 9 ?_); (refine arm_want (.pointer (some ⟨g, q + k * 363, none⟩)) 9 rfl (by kernel_rfl) (run_op_index fS _ _ rfl g q _ _ rfl .i64 _ rfl k rfl hlt _) ?_))
          | ((with_reducible refine at_slot 10 ?_); (refine arm_load (o := ⟨some 10, _, _, _, _, _⟩) rfl _ _ rfl g (q + k * 363) rfl (scs s) (RT.out) (sz_sta KS.out) ?_))
          | ((with_reducible refine at_slot 4 ?_); (refine arm_alloc (o := ⟨some 4, _, _, _, _, _⟩) rfl _ rfl (scs zs) z_sta ?_); intro X v101 Xe hv101 nv101)
          | ((with_reducible refine arm_store (o := ⟨none, _, _, _, _, _⟩) rfl _ _ _ rfl X 0 rfl (scs s) rfl _ _ (hv101) (fitS KS.out) (scs_one _) (sz_sta KS.out) ?_); intro v102 hv102 ov102 sv102)
          | ((with_reducible refine at_slot 11 ?_); (refine arm_load (o := ⟨some 11, _, _, _, _, _⟩) rfl _ _ rfl X 0 rfl (scs s) ((show Has (scs s) 0 (scs s) from Has.refl _).range ((hv102.congr (allS KS.out)))) (sz_sta KS.out) ?_)))
        have q0 := Xe.out
        have q1 := nv101.size
        have q2 := sv102.out
        have q3 := bel.size
        have lX : w.heap.size ≤ X := by omega
        have rX103 : Row v102 X 35 (scs s) := (hv102.congr (allS KS.out))
        have bel103 : Below w.heap.size w v102 := (below_only (below_step bel (by omega) nv101.below) ov102 lX (by omega))
        clear q0 q1 q2 q3 bel Xe hv101 nv101 hv102 ov102 sv102
        refine (COs.out _).mono ?_
        rintro e y104 ⟨rfl, hB⟩
        have rX104 : Row y104 X 35 (scs s) := rX103.old hB
        have bel104 : Below w.heap.size w y104 := below_step bel103 bel103.size hB
        clear hB rX103 bel103
        go_wp2_with fail
        refine (CRs.out _).mono ?_
        rintro e y105 ⟨rfl, hB⟩
        have rX105 : Row y105 X 35 (scs s) := rX104.old hB
        have bel105 : Below w.heap.size w y105 := below_step bel104 bel104.size hB
        clear hB rX104 bel104
        go_wp2_with fail
        rw [HQ.out]
        go_ret
        exact ⟨rfl, bel105⟩
    · obtain rfl : k = l.length := by omega
      have hall := HA.out
      rw [List.take_length] at hall
      by_cases h20 : l.length ≤ 20
      · have HQ : Hid (v = true) := Lib.hid (by rw [HV.out]; exact decide_eq_true ⟨hall, h20⟩)
        have d1 : decide ((l.length : Int) ≤ 20) = true := decide_eq_true (by omega)
        have d2 : decide (l.length ≤ 20) = true := decide_eq_true (by omega)
        clear hall HA h20
        go_wp2_with fail
        rw [HQ.out]
        go_ret
        exact ⟨rfl, bel⟩
      · have HQ : Hid (v = false) := Lib.hid (by rw [HV.out]; exact decide_eq_false (fun g => h20 g.2))
        have d1 : decide ((l.length : Int) ≤ 20) = false := decide_eq_false (by omega)
        have d2 : decide (l.length ≤ 20) = false := decide_eq_false (by omega)
        clear hall HA h20
        go_wp2_with fail
        rw [HQ.out]
        go_ret
        exact ⟨rfl, bel⟩
end Go.Proofs.YtffpifljeeikfaaGreatDoor.Cz
