/-
  The contracts of package tree's Root and Path. Over this seat's translation.
-/
import Derived.Test.YtpebadhknpohkaaDoorTreNode
namespace Go.Proofs.YtpebadhknpohkaaDoor.Tr
open Go.ChangeShapes Go.WideShapes Go.ChangeAt Go.RowKit Go.Proofs.YtpebadhknpohkaaDoor.Mem Go.Proofs.YtpebadhknpohkaaDoor.Bt Go.Proofs.YtpebadhknpohkaaDoor.Wi Go.Proofs.YtpebadhknpohkaaDoor.Sha Go.Proofs.YtpebadhknpohkaaDoor.Ac Go.Proofs.YtpebadhknpohkaaDoor.Im
open Go.Proofs.YtpebadhknpohkaaDoor.Tg (bytesOf bytesOf_length bytesOf_lt bytesOf_inj Rd Rd.below Parts parts_one arm_one tagD tagD_len tagOf_any refTag_any total)
open Go.Proofs.YtpebadhknpohkaaDoor.Ep (H32 zh zh_ok Has h_len szH zH fitH allH came_at)
set_option linter.unusedVariables false
set_option linter.unusedSimpArgs false

/-- A path that is known behind so many rounds. -/
def pl (t : Tree) (p : Nat) : Nat → List (List Nat)
  | 0 => z4
  | k + 1 => (pl t p k).set k (besD t p k)
theorem pl_ok (t : Tree) (p : Nat) : ∀ k, ∀ x ∈ pl t p k, H32 x
  | 0 => z4_ok
  | k + 1 => all_set (pl_ok t p k) (bes_ok t p k) k
theorem pl_len (t : Tree) (p : Nat) : ∀ k, (pl t p k).length = 4
  | 0 => rfl
  | k + 1 => by unfold pl; rw [List.length_set, pl_len t p k]
theorem pl_all (t : Tree) (p : Nat) : pl t p 4 = pathD t p := rfl
theorem path_lay {L : List (List Nat)} (h : ∀ x ∈ L, H32 x) {d : List Nat} (kd : H32 d) {i : Nat} (hi : i < L.length) : lay (dgC L) (32 * i) (u8s d) = dgC (L.set i d) := by
  have := dg_lay L [] i d h kd hi
  simpa using this
theorem path_has {L : List (List Nat)} (h : ∀ x ∈ L, H32 x) {d : List Nat} {i : Nat} (hi : L[i]? = some d) : Has (dgC L) (32 * i) (u8s d) := by
  have := dg_has L [] i d h hi
  simpa using this
structure PathPost (w : World) (t : Tree) (p : Int) (e : Ending) (w' : World) : Prop where
  ret : e = .returned (.tuple #[.agg (dgC (pathI t p)).toArray, .int .i64 (pathE p : Int)])
  bel : Below w.heap.size w w'
theorem tree_ne_path {w : World} {B mb : Nat} {t : Tree} {L : List (List Nat)} {ty : TypeId} (h : TrAt w B mb t) (g : Row w B ty (dgC L)) : False := by
  have e := h.row.inj g
  have h0 : (tcs mb b5)[0]? = some (.map (some mb)) := rfl
  rw [e] at h0
  have hm := List.mem_of_getElem? h0
  unfold dgC at hm
  obtain ⟨x, _, hx⟩ := List.mem_flatMap.1 hm
  obtain ⟨m, hm⟩ := Ep.u8s_int x _ hx
  cases hm
set_option maxHeartbeats 4000000 in
set_option maxRecDepth 100000 in
theorem root_any (B mb : Nat) (t : Tree) (w : World) (ht : TrAt w B mb t) (hg : Good t) (hk : w.rangeAt 0 0 (u32s ks)) :
    Calls Tryd.prog 19 #[.pointer (some ⟨B, 0, none⟩)] w fun e w' => e = .returned (.agg (u8s (rootD t)).toArray) ∧ Below w.heap.size w w' := by
  have hk1 : 0 < w.heap.size := range_lt hk (by simp [u32s, ks])
  have HKW : Hid (∀ w', Below w.heap.size w w' → w'.rangeAt 0 0 (u32s ks)) := Lib.hid fun w' hb => range_block hk (hb.block _ hk1)
  have CN : Hid (∀ w0, TrAt w0 B mb t → w0.rangeAt 0 0 (u32s ks) → Calls Tryd.prog 28 #[.pointer (some ⟨B, 0, none⟩), .int .i64 4, .int .i64 0] w0 fun e w' => e = .returned (.agg (u8s (rootD t)).toArray) ∧ Below w0.heap.size w0 w') := Lib.hid fun w0 h0 h1 => node_any B mb t hg 4 0 w0 (by omega) (by decide) h0 h1
  have KD := Lib.hid (root_ok t)
  clear hk hk1 hg
  generalize rootD t = dd at CN KD ⊢
  go_enter Tryd.func19, Tryd.ntmps19
  go_wp2_with (first
    | ((with_reducible refine at_slot 2 ?_); (refine arm_alloc (o := ⟨some 2, _, _, _, _, _⟩) rfl _ rfl (u8s zh) zH ?_); intro R v1 Re hv1 nv1))
  have hbv1 := nv1.below
  have rrv1 : Row v1 R 50 (u8s zh) := hv1
  have geR : w.heap.size ≤ R := by have := Re.out; omega
  clear hv1 nv1 Re
  have T_2 : TrAt v1 B mb t := ht.old hbv1
  have bel_2 : Below w.heap.size w v1 := hbv1
  clear ht hbv1
  go_wp2_with fail
  refine (CN.out _ T_2 (HKW.out _ bel_2)).mono ?_
  rintro e y3 ⟨rfl, hB⟩
  have T_4 : TrAt y3 B mb t := T_2.old hB
  have R_4 : Row y3 R 50 (u8s zh) := rrv1.old hB
  have bel_4 : Below w.heap.size w y3 := below_step bel_2 bel_2.size hB
  clear T_2 rrv1 bel_2 hB
  go_wp2_with (first
    | ((with_reducible refine arm_store (o := ⟨none, _, _, _, _, _⟩) rfl _ _ _ rfl R 0 rfl (u8s dd) rfl _ _ (R_4) (fitH KD.out) (u8s_one _) (szH KD.out) ?_); intro y9 hy9 oy9 sy9))
  exact bodyPost_ret (v := .agg (u8s dd).toArray) (result_row (p := 2) (ty := 50) (u := 50) (by kernel_rfl) _ _ R (u8s dd) rfl (hy9.congr (allH KD.out)) (szH KD.out)) rfl ⟨rfl, below_only bel_4 oy9 geR bel_4.size⟩
structure PaRel (w : World) (B mb P Z : Nat) (t : Tree) (p : Nat) (i : Value) (wr : World) : Prop where
  ex : ∃ k : Nat, k ≤ 4 ∧ i = .int .i64 (k : Int) ∧ Row wr P 52 (dgC (pl t p k))
  rz : Row wr Z 52 (dgC z4)
  tr : TrAt wr B mb t
  bel : Below w.heap.size w wr
set_option maxHeartbeats 4000000 in
set_option maxRecDepth 100000 in
theorem path_any (B mb : Nat) (t : Tree) (p : Int) (w : World) (ht : TrAt w B mb t) (hg : Good t) (hk : w.rangeAt 0 0 (u32s ks)) :
    Calls Tryd.prog 17 #[.pointer (some ⟨B, 0, none⟩), .int .i64 p] w (PathPost w t p) := by
  have hk1 : 0 < w.heap.size := range_lt hk (by simp [u32s, ks])
  have HKW : Hid (∀ w', Below w.heap.size w w' → w'.rangeAt 0 0 (u32s ks)) := Lib.hid fun w' hb => range_block hk (hb.block _ hk1)
  have CT := Lib.hid (fun w0 => there_any p w0)
  have KZ := Lib.hid (sz_path z4_ok rfl)
  have FZ := Lib.hid (fitP z4_ok rfl)
  have BZ := Lib.hid built_path
  by_cases hin : 0 ≤ p ∧ p < 16
  · rw [decide_eq_true hin] at CT
    obtain ⟨q, hq⟩ : ∃ q : Nat, p = (q : Int) := ⟨p.toNat, by omega⟩
    subst hq
    have hq16 : q < 16 := by omega
    have HI : Hid (pathI t (q : Int) = pathD t q) := Lib.hid (by unfold pathI; rw [if_pos hin, Int.toNat_natCast])
    have HE : Hid (pathE (q : Int) = 0) := Lib.hid (by unfold pathE; rw [if_pos hin])
    have CN : Hid (∀ (k : Nat) w0, k < 4 → TrAt w0 B mb t → w0.rangeAt 0 0 (u32s ks) → Calls Tryd.prog 28 #[.pointer (some ⟨B, 0, none⟩), .int .i64 (k : Int), .int .i64 ((sib (q / 2 ^ k)) : Int)] w0 fun e w' => e = .returned (.agg (u8s (besD t q k)).toArray) ∧ Below w0.heap.size w0 w') := Lib.hid fun k w0 hk4 h0 h1 => node_any B mb t hg k (sib (q / 2 ^ k)) w0 (by omega) (path_fit hq16 hk4) h0 h1
    have HQ := Lib.hid hq16
    clear hk hk1 hg hin hq16
    go_enter Tryd.func17, Tryd.ntmps17
    go_wp2_with (first
      | ((with_reducible refine at_slot 4 ?_); (refine arm_alloc (o := ⟨some 4, _, _, _, _, _⟩) rfl _ rfl (dgC z4) z_path ?_); intro Z v1 Ze hv1 nv1))
    have hbv1 := nv1.below
    have rrv1 : Row v1 Z 52 (dgC z4) := hv1
    have geZ : w.heap.size ≤ Z := by have := Ze.out; omega
    clear hv1 nv1 Ze
    have T_2 : TrAt v1 B mb (t) := ht.old hbv1
    have bel_2 : Below w.heap.size w v1 := hbv1
    clear ht hbv1
    go_wp2_with fail
    refine (CT.out _).mono ?_
    rintro e z3 ⟨rfl, rfl⟩
    go_wp2_with (first
      | ((with_reducible refine at_slot 6 ?_); (refine arm_alloc (o := ⟨some 6, _, _, _, _, _⟩) rfl _ rfl (dgC z4) z_path ?_); intro P v4 Pe hv4 nv4))
    have hbv4 := nv4.below
    have rrv4 : Row v4 P 52 (dgC z4) := hv4
    have hZP0 : Z ≠ P := by have := Pe.out; have := rrv1.lt; omega
    have geP : w.heap.size ≤ P := by have := Pe.out; have := bel_2.size; omega
    clear hv4 nv4 Pe
    have T_5 : TrAt v4 B mb (t) := T_2.old hbv4
    have Z_5 : Row v4 Z 52 (dgC z4) := rrv1.old hbv4
    have bel_5 : Below w.heap.size w v4 := below_step bel_2 bel_2.size hbv4
    clear T_2 rrv1 bel_2 hbv4
    go_wp2_with fail
    try simp only [Act.put]
    have hZP : Z ≠ P := hZP0
    have h0 : PaRel w B mb P Z t q (.int .i64 0) v4 := ⟨⟨0, by omega, rfl, rrv4⟩, Z_5, T_5, bel_5⟩
    clear rrv4 T_5 Z_5 bel_5 CT
    go_loopw [12] (fun i wr => PaRel w B mb P Z t q i wr) (fun i _ => 4 - (intOf i).toNat)
    case atStart => exact h0
    case round =>
      clear h0
      obtain ⟨⟨k, hk, rfl, hrow⟩, hz, htr, bel⟩ := hrel
      by_cases hlt : k < 4
      · have ik : (k : Int) < 4 := by omega
        have hx16 : q / 2 ^ k < 16 := Nat.lt_of_le_of_lt (Nat.div_le_self _ _) HQ.out
        have HX16 := Lib.hid hx16
        have CN := Lib.hid (fun w0 => CN.out k w0 hlt)
        have KD := Lib.hid (bes_ok t q k)
        have HQL : Hid (q ≤ 9223372036854775807) := Lib.hid (by have := HQ.out; omega)
        have HK64 : Hid (k < 64) := Lib.hid (by omega)
        have HLY : Hid (lay (dgC (pl t q k)) (k * 32) (u8s (besD t q k)) = dgC (pl t q (k + 1))) := Lib.hid (by rw [Nat.mul_comm k 32]; exact path_lay (pl_ok t q k) (bes_ok t q k) (by rw [pl_len]; omega))
        have HFT : Hid (k * 32 + (u8s (besD t q k)).length ≤ (dgC (pl t q k)).length) := Lib.hid (by rw [dg4 (pl_ok t q k) (pl_len t q k), h_len (bes_ok t q k)]; omega)
        have HLT := Lib.hid hlt
        generalize besD t q k = dd at CN KD HLY HFT
        clear hx16
        go_wp2_with (first
          | ((with_reducible refine at_slot 20 ?_); (refine arm_want (.int .i64 ((q / 2 ^ k : Nat) : Int)) 20 rfl (by kernel_rfl) (run_op_shrI _ _ _ _ rfl q k rfl rfl HQL.out HK64.out _) ?_))
          | ((with_reducible refine at_slot 21 ?_); (refine arm_want (.int .i64 ((sib (q / 2 ^ k)) : Int)) 21 rfl (by kernel_rfl) (run_op_xorI _ _ _ _ rfl (q / 2 ^ k) rfl rfl HX16.out _) ?_)))
        refine (CN.out _ htr (HKW.out _ bel)).mono ?_
        rintro e y101 ⟨rfl, hB⟩
        have P_102 : Row y101 P 52 (dgC (pl t q k)) := hrow.old hB
        have Z_102 : Row y101 Z 52 (dgC z4) := hz.old hB
        have T_102 : TrAt y101 B mb (t) := htr.old hB
        have bel_102 : Below w.heap.size w y101 := below_step bel bel.size hB
        clear hrow hz htr bel hB
        have hTP : B ≠ P := fun e => by subst e; exact tree_ne_path T_102 P_102
        have hMP : mb ≠ P := T_102.map.row P_102
        go_wp2_with (first
          | ((with_reducible refine arm_store (o := ⟨none, _, _, _, _, _⟩) rfl _ _ _ rfl P (k * 32) rfl (u8s dd) rfl _ _ (P_102) HFT.out (u8s_one _) (szH KD.out) ?_); intro y9 hy9 oy9 sy9))
        try simp only [Act.put]
        go_roundw
        case rel => exact ⟨⟨k + 1, by omega, by go_num, hy9.congr HLY.out⟩, Z_102.only oy9 hZP, T_102.only oy9 hTP hMP, below_only bel_102 oy9 geP bel_102.size⟩
        case measure => simp [intOf]; omega
      · obtain rfl : k = 4 := by omega
        have hrow4 : Row wr P 52 (dgC (pathD t q)) := hrow
        have KP := Lib.hid (sz_path (path_ok t q) rfl)
        have KF := Lib.hid (fitP (path_ok t q) rfl)
        have KA := Lib.hid (allP (path_ok t q) rfl)
        clear hrow
        generalize pathD t q = dp at hrow4 KP KF KA HI
        go_wp2_with (first
          | ((with_reducible refine at_slot 25 ?_); (refine arm_load (o := ⟨some 25, _, _, _, _, _⟩) rfl _ _ rfl P 0 rfl (dgC dp) ((Has.refl _).range hrow4) KP.out ?_))
          | ((with_reducible refine arm_store (o := ⟨none, _, _, _, _, _⟩) rfl _ _ _ rfl Z 0 rfl (dgC dp) rfl _ _ (hz) KF.out (dgC_ones _) KP.out ?_); intro y9 hy9 oy9 sy9))
        exact bodyPost_ret (result_row2 (p := 4) (u := 5) (ty := 52) (t := 52) (by kernel_rfl) _ _ Z (dgC dp) (.int .i64 0) rfl rfl (hy9.congr KA.out) KP.out) rfl ⟨by rw [HI.out, HE.out]; rfl, below_only bel oy9 geZ bel.size⟩
  · rw [decide_eq_false hin] at CT
    have HI : Hid (pathI t p = z4) := Lib.hid (by unfold pathI; rw [if_neg hin])
    have HE : Hid (pathE p = 1) := Lib.hid (by unfold pathE; rw [if_neg hin])
    have KA := Lib.hid (allP z4_ok rfl)
    clear hk hk1 hg hin ht
    go_enter Tryd.func17, Tryd.ntmps17
    go_wp2_with (first
      | ((with_reducible refine at_slot 4 ?_); (refine arm_alloc (o := ⟨some 4, _, _, _, _, _⟩) rfl _ rfl (dgC z4) z_path ?_); intro Z v1 Ze hv1 nv1))
    have hbv1 := nv1.below
    have rrv1 : Row v1 Z 52 (dgC z4) := hv1
    have geZ : w.heap.size ≤ Z := by have := Ze.out; omega
    clear hv1 nv1 Ze
    have bel_2 : Below w.heap.size w v1 := hbv1
    clear hbv1
    go_wp2_with fail
    refine (CT.out _).mono ?_
    rintro e z3 ⟨rfl, rfl⟩
    go_wp2_with (first
      | ((with_reducible refine at_slot 11 ?_); (refine arm_build (o := ⟨some 11, _, _, _, _, _⟩) rfl _ _ rfl (dgC z4) (by simp only [List.map_toArray, List.map_nil]; exact BZ.out) ?_))
      | ((with_reducible refine arm_store (o := ⟨none, _, _, _, _, _⟩) rfl _ _ _ rfl Z 0 rfl (dgC z4) rfl _ _ (rrv1) FZ.out (dgC_ones _) KZ.out ?_); intro y9 hy9 oy9 sy9))
    exact bodyPost_ret (result_row2 (p := 4) (u := 5) (ty := 52) (t := 52) (by kernel_rfl) _ _ Z (dgC z4) (.int .i64 1) rfl rfl (hy9.congr KA.out) KZ.out) rfl ⟨by rw [HI.out, HE.out]; rfl, below_only bel_2 oy9 geZ bel_2.size⟩
end Go.Proofs.YtpebadhknpohkaaDoor.Tr
