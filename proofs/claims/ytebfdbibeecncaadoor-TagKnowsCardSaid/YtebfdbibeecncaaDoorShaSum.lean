/-
  The contracts of sha's end, Sum and Of, over this seat's translation: the digest of what was written.
-/
import Derived.Test.YtebfdbibeecncaaDoorShaHash
namespace Go.Proofs.YtebfdbibeecncaaDoor.Sha
open Go.ChangeShapes Go.WideShapes Go.ChangeAt Go.RowKit Go.Proofs.YtebfdbibeecncaaDoor.Num Go.Proofs.YtebfdbibeecncaaDoor.Mem Go.Proofs.YtebfdbibeecncaaDoor.Bt
set_option linter.unusedVariables false

theorem z52 : Mem.Zero Tryd.prog 75 (u8s (List.replicate 128 0)) := by unfold Mem.Zero; kernel_rfl
theorem end_plain (s : Nat) (hi lo : List Nat) (h9 : 9 ≤ s) (h128 : s ≤ 128) (hh : hi.length = 4) (hl : lo.length = 4) :
    lay (lay ((u8s (List.replicate 128 0)).set 0 (.int .u8 128)) (s - 8) (u8s hi)) (s - 4) (u8s lo) = u8s (128 :: (List.replicate (s - 9) 0 ++ (hi ++ lo)) ++ List.replicate (128 - s) 0) := by
  have e0 : (u8s (List.replicate 128 0)).set 0 (.int .u8 128) = u8s (128 :: List.replicate 127 0) := rfl
  have e1 : (128 :: List.replicate 127 0).take (s - 8) = 128 :: List.replicate (s - 9) 0 := by
    rw [show s - 8 = (s - 9) + 1 from by omega, List.take_succ_cons, List.take_replicate, Nat.min_eq_left (by omega)]
  have e2 : (128 :: List.replicate 127 0).drop (s - 8 + 4) = List.replicate (128 - (s - 4)) 0 := by
    rw [show s - 8 + 4 = (s - 5) + 1 from by omega, List.drop_succ_cons, List.drop_replicate]; congr 1; omega
  have e3 : (128 :: List.replicate (s - 9) 0 ++ hi).length = s - 4 := by
    rw [List.length_append, List.length_cons, List.length_replicate, hh]; omega
  rw [e0, lay_u8s, hh, e1, e2, lay_u8s, hl, List.take_append_of_le_length (by omega), List.take_of_length_le (by omega), List.drop_append, List.drop_eq_nil_of_le (by omega), List.nil_append, e3, List.drop_replicate]
  rw [show 128 - (s - 4) - (s - 4 + 4 - (s - 4)) = 128 - s from by omega]
  simp
theorem bytes4_len (x : Nat) : (bytes4 x).length = 4 := rfl
theorem bytes4_lt (x : Nat) : AllLt 256 (bytes4 x) := by
  intro y hy
  simp only [bytes4, List.mem_cons, List.not_mem_nil, or_false] at hy
  rcases hy with rfl | rfl | rfl | rfl <;> exact Nat.mod_lt _ (by omega)
theorem ending_len (n : Nat) : (ending n).length = (119 - n % 64) % 64 + 9 := by
  simp [ending, bytes8, bytes4_len]
theorem ending_lt (n : Nat) : AllLt 256 (ending n) := by
  intro y hy
  simp only [ending, bytes8, List.mem_cons, List.mem_append, List.mem_replicate] at hy
  rcases hy with rfl | ⟨_, rfl⟩ | hy | hy
  · omega
  · omega
  · exact bytes4_lt _ y hy
  · exact bytes4_lt _ y hy
theorem padded_lt {l : List Nat} (h : AllLt 256 l) : AllLt 256 (padded l) := append_lt h (ending_lt _)

set_option maxHeartbeats 1000000 in
set_option maxRecDepth 100000 in
theorem end_any (l : List Nat) (B : Nat) (w : World) (hr : Row w B 70 (hcells l)) (hl : AllLt 256 l) (hsz : l.length ≤ 900000) (hk : w.rangeAt 1 0 (u32s ks)) (hkB : 1 ≠ B) :
    Calls Tryd.prog 27 #[.pointer (some ⟨B, 0, none⟩)] w fun e w' => e = .returned (.tuple #[]) ∧ Row w' B 70 (hcells (padded l)) ∧ Only B w w' := by
  have hc := hr.cell (hcells_count l)
  have HK := Lib.hid hk; have HKB := Lib.hid hkB
  have hk1 : 1 < w.heap.size := range_lt hk (by simp [u32s, ks])
  have hBl := hr.lt
  clear hk hkB
  obtain ⟨s, hs⟩ : ∃ s : Nat, s = (119 - l.length % 64) % 64 + 9 := ⟨_, rfl⟩
  have hel : (ending l.length).length = s := by rw [ending_len, hs]
  have hs9 : 9 ≤ s := by omega
  have hs128 : s ≤ 128 := by omega
  have hee : ending l.length = 128 :: (List.replicate (s - 9) 0 ++ (bytes4 (8 * l.length / 4294967296) ++ bytes4 (8 * l.length % 4294967296))) := by
    unfold ending bytes8; rw [show s - 9 = (119 - l.length % 64) % 64 from by omega]
  have HEE := Lib.hid hee; have HEL := Lib.hid hel; clear hee hel
  have hhi : 8 * l.length / 4294967296 < 4294967296 := by omega
  have hlo : 8 * l.length % 4294967296 < 4294967296 := by omega
  obtain ⟨x, hsv⟩ : ∃ x : Int, ((64 : Int) - (l.length : Int) % 64 < 9 → x = 64 - (l.length : Int) % 64 + 64) ∧ (¬ (64 : Int) - (l.length : Int) % 64 < 9 → x = 64 - (l.length : Int) % 64) ∧ x = (s : Int) := ⟨(s : Int), by omega, by omega, rfl⟩
  have HSV := Lib.hid hsv
  clear hs hsv
  by_cases h9 : (64 : Int) - (l.length : Int) % 64 < 9
  all_goals
    go_enter Tryd.func27, Tryd.ntmps27
    go_wp2_with (first
      | ((with_reducible refine arm_alloc (o := ⟨some 3, _, _, _, _, _⟩) rfl _ rfl _ z52 ?_); intro E w1 hE hR1 hN1)
      | ((with_reducible refine arm_store1 (o := ⟨none, _, _, _, _, _⟩) rfl _ _ _ rfl E 0 rfl .u8 128 rfl (by kernel_rfl) _ _ hR1 (by rw [u8s_length, List.length_replicate]; omega) ?_); intro w2 hR2 hO2 hS2; have hBE : B ≠ E := (by have := hE.out; omega); have hrB2 := (hr.old hN1.below).only hO2 hBE; have hc2 := hrB2.cell (hcells_count l))
      | (go_at_call 34; rw [show (8 : Int) * (l.length : Int) = ((8 * l.length : Nat) : Int) from by omega]; (refine (split_any (8 * l.length) _ (by omega)).mono ?_); rintro e w' ⟨rfl, rfl⟩)
      | (with_reducible refine arm_sliceLow (o := ⟨some 29, _, _, _, _, _⟩) rfl _ _ _ rfl 128 5 (by kernel_rfl) (by kernel_rfl) E 0 rfl .i64 _ rfl (s - 8) (by have := HSV.out; omega) (by omega) ?_))
    refine (put_any E (s - 8) _ _ _ _ _ _ (by omega) (by omega) hhi hR2 (by rw [List.length_set, u8s_length, List.length_replicate]; omega)).mono ?_
    rintro e w3 ⟨rfl, hR3, hO3, hS3⟩
    go_wp2_with (first
      | (with_reducible refine arm_sliceLow (o := ⟨some 34, _, _, _, _, _⟩) rfl _ _ _ rfl 128 5 (by kernel_rfl) (by kernel_rfl) E 0 rfl .i64 _ rfl (s - 4) (by have := HSV.out; omega) (by omega) ?_))
    refine (put_any E (s - 4) _ _ _ _ _ _ (by omega) (by omega) hlo hR3 (by unfold lay; simp only [List.length_append, List.length_take, List.length_drop, List.length_set, u8s_length, List.length_replicate, bytes4_len]; omega)).mono ?_
    rintro e w4 ⟨rfl, hR4, hO4, hS4⟩
    have hR4' := hR4.congr (end_plain s _ _ hs9 hs128 (bytes4_len _) (bytes4_len _))
    clear hR4 hR3 hR2 hR1
    go_wp2_with (first
      | (with_reducible refine arm_sliceHigh (o := ⟨some 39, _, _, _, _, _⟩) rfl _ _ _ rfl 128 5 (by kernel_rfl) (by kernel_rfl) E 0 rfl .i64 _ rfl (ending l.length).length (by rw [HEL.out]; have := HSV.out; omega) (by rw [HEL.out]; omega) (by omega) ?_))
    have hO24 : Only E w1 w4 := (hO2.trans hO3).trans hO4
    have hw1 : w.heap.size ≤ w1.heap.size := by rw [hN1.size]; omega
    have hEe := hE.out
    refine (write_any l (ending l.length) B 128 _ w4 ((hr.old hN1.below).only hO24 hBE) hl (ending_lt _) (by rw [HEL.out]; omega) (by rw [HEL.out]; omega)
      (fun _ => ⟨E, 0, rfl, Ne.symm hBE, hR4'.range 0 _ (fun j v hj => by
        rw [Nat.zero_add, u8s_append, List.getElem?_append_left (by rw [← HEE.out]; exact (List.getElem?_eq_some_iff.1 hj).1), ← HEE.out]; exact hj)⟩)
      (range_block (range_block HK.out (hN1.below.block _ hk1)) (hO24.block _ (by omega) (by omega))) HKB.out).mono ?_
    rintro e w5 ⟨rfl, hR5, hO5⟩
    go_wp2_with fail
    go_end0
    refine ⟨rfl, hR5, ⟨?_, ?_, ?_, ?_, ?_⟩⟩
    · exact hO5.os.trans (hO24.os.trans hN1.below.os)
    · exact hO5.tape.trans (hO24.tape.trans hN1.below.tape)
    · exact hO5.output.trans (hO24.output.trans hN1.below.output)
    · exact Nat.le_trans hw1 (Nat.le_trans hO24.size hO5.size)
    · intro k hkk hkB
      have h24 := hO24.size
      rw [hO5.block k (by omega) hkB, hO24.block k (by omega) (by omega), hN1.below.block k hkk]

theorem z25 : Mem.Zero Tryd.prog 32 (u8s (List.replicate 32 0)) := by unfold Mem.Zero; kernel_rfl
theorem sz25 : Sized Tryd.prog 32 32 := ⟨.array 32 5, by kernel_rfl, rfl, by kernel_rfl⟩
def hzero : List Value := u32s (List.replicate 8 0) ++ (u8s (List.replicate 64 0) ++ [.int .u64 0])
theorem z44 : Mem.Zero Tryd.prog 70 hzero := by unfold Mem.Zero; kernel_rfl
theorem sz44 : Sized Tryd.prog 70 73 := ⟨.struct (Tryd.prog.fieldsOf 70), by kernel_rfl, rfl, by kernel_rfl⟩
theorem hcells_one (l : List Nat) : OneCells (hcells l) := by
  intro v hv
  rcases List.mem_append.1 hv with h | h
  · exact u32s_one _ v h
  · rcases List.mem_append.1 h with h | h
    · exact u8s_one _ v h
    · simp at h; subst h; rfl
theorem hzero_len : hzero.length = 73 := rfl
/-- The digest's bytes so far, and zeros. -/
def fillO (s : S8) (k : Nat) : List Nat := (s.list.take k).flatMap bytes4 ++ List.replicate (32 - 4 * k) 0
theorem take_list_len (s : S8) (k : Nat) (hk : k ≤ 8) : (s.list.take k).length = k := by rw [List.length_take, list_len]; omega
theorem flat_len (m : List Nat) : (m.flatMap bytes4).length = 4 * m.length := by
  induction m with
  | nil => rfl
  | cons x m ih => rw [List.flatMap_cons, List.length_append, ih, bytes4_len, List.length_cons]; omega
theorem fillO_step (s : S8) (k : Nat) (hk : k < 8) : lay (u8s (fillO s k)) (4 * k) (u8s (bytes4 (s.list.getD k 0))) = u8s (fillO s (k + 1)) := by
  have hA : ((s.list.take k).flatMap bytes4).length = 4 * k := by rw [flat_len, take_list_len s k (by omega)]
  have hk2 : k < s.list.length := by rw [list_len]; exact hk
  have ht : s.list.take (k + 1) = s.list.take k ++ [s.list.getD k 0] := by
    rw [List.take_succ_eq_append_getElem hk2, List.getD_eq_getElem?_getD, List.getElem?_eq_getElem hk2]; rfl
  rw [lay_u8s, bytes4_len]
  unfold fillO
  rw [List.take_append_of_le_length (by omega), List.take_of_length_le (by omega), List.drop_append, hA, List.drop_eq_nil_of_le (by omega), List.nil_append, List.drop_replicate, ht, List.flatMap_append]
  rw [show 32 - 4 * k - (4 * k + 4 - 4 * k) = 32 - 4 * (k + 1) from by omega]
  simp
theorem fillO_len (s : S8) (k : Nat) (hk : k ≤ 8) : (fillO s k).length = 32 := by
  unfold fillO; rw [List.length_append, flat_len, take_list_len s k hk, List.length_replicate]; omega
theorem fillO_all (s : S8) : fillO s 8 = outOf s := by
  unfold fillO outOf; rw [List.take_of_length_le (by rw [list_len]; omega)]; simp
theorem outOf_len (s : S8) : (outOf s).length = 32 := by rw [← fillO_all, fillO_len s 8 (by omega)]
theorem list_lt {s : S8} (h : Bd s) : AllLt 4294967296 s.list := by
  obtain ⟨a, b, c, d, e, f, g, h⟩ := h
  intro x hx
  simp only [S8.list, List.mem_cons, List.not_mem_nil, or_false] at hx
  rcases hx with rfl | rfl | rfl | rfl | rfl | rfl | rfl | rfl <;> assumption
/-- What holds in Sum's loop. -/
structure SmRel (w : World) (s : S8) (k R U : Nat) (wr : World) : Prop where
  rr : Row wr R 32 (u8s (List.replicate 32 0))
  ru : Row wr U 32 (u8s (fillO s k))
  bel : Below w.heap.size w wr

set_option maxHeartbeats 1000000 in
set_option maxRecDepth 100000 in
theorem sum_any (l : List Nat) (B : Nat) (w : World) (hr : Row w B 70 (hcells l)) (hl : AllLt 256 l) (hsz : l.length ≤ 900000) (hk : w.rangeAt 1 0 (u32s ks)) :
    Calls Tryd.prog 23 #[.pointer (some ⟨B, 0, none⟩)] w fun e w' => e = .returned (.agg (u8s (digest l)).toArray) ∧ Below w.heap.size w w' := by
  have HK := Lib.hid hk
  have hk1 : 1 < w.heap.size := range_lt hk (by simp [u32s, ks])
  clear hk
  go_enter Tryd.func23, Tryd.ntmps23
  go_wp2_with (first
    | ((with_reducible refine arm_alloc (o := ⟨some 2, _, _, _, _, _⟩) rfl _ rfl _ z25 ?_); intro R w1 hRe hR1 hN1)
    | (with_reducible refine arm_load (o := ⟨some 9, _, _, _, _, _⟩) rfl _ _ rfl B 0 rfl (hcells l) ((hr.old hN1.below).range 0 _ (fun j v hj => by rw [Nat.zero_add]; exact hj)) (by rw [hcells_len]; exact sz44) ?_)
    | ((with_reducible refine arm_alloc (o := ⟨some 3, _, _, _, _, _⟩) rfl _ rfl _ z44 ?_); intro La w2 hLa hR2 hN2)
    | ((with_reducible refine arm_store (o := ⟨none, _, _, _, _, _⟩) rfl _ _ _ rfl La 0 rfl (hcells l) rfl _ _ hR2 (by rw [hcells_len, hzero_len]; omega) (hcells_one _) (by rw [hcells_len]; exact sz44) ?_); intro w3 hR3 hO3 hS3))
  have e1 := hRe.out; have e2 := hLa.out; have z1 := hN1.size; have z2 := hN2.size; have z3 := hS3.out
  have bel3 : Below w.heap.size w w3 := below_only (below_step hN1.below (by omega) hN2.below) hO3 (by omega) (by omega)
  have hk3 : w3.rangeAt 1 0 (u32s ks) := range_block HK.out (bel3.block _ hk1)
  have hRR3 : Row w3 R 32 (u8s (List.replicate 32 0)) := (hR1.old hN2.below).only hO3 (by omega)
  have n1 : 1 ≠ La := by omega
  have n2 : R ≠ La := by omega
  have lLa : w.heap.size ≤ La := by omega
  have lR : w.heap.size ≤ R := by omega
  have z3' : w.heap.size ≤ w3.heap.size := by omega
  have rlt : R < w3.heap.size := hRR3.lt
  clear e1 e2 z1 z2 z3 hRe hLa hR1 hN1 hR2 hN2 hO3 hS3 w1 w2
  have N1 := Lib.hid n1; have N2 := Lib.hid n2; clear n1 n2
  refine (end_any l La w3 (hR3.congr (lay_all _ _ (by rw [hcells_len, hzero_len]))) hl hsz hk3 N1.out).mono ?_
  rintro e w4 ⟨rfl, hR4, hO4⟩
  have bel4 : Below w.heap.size w w4 := below_only bel3 hO4 lLa z3'
  have hRR4 := hRR3.only hO4 N2.out
  have z4 : w.heap.size ≤ w4.heap.size := bel4.size
  clear hR3 bel3 hk3 hRR3 hO4 z3' rlt w3
  have hst := stOf_bd (padded l)
  have hdg : Hid (digest l = outOf (stOf (padded l))) := Lib.hid rfl
  have hwr := hR4.range 0 _ (hcells_words (padded l))
  generalize stOf (padded l) = s at hst hdg hwr
  go_wp2_with (first
    | ((with_reducible refine arm_alloc (o := ⟨some 4, _, _, _, _, _⟩) rfl _ rfl _ z25 ?_); intro U w5 hU hR5 hN5)
    | (with_reducible refine arm_load (o := ⟨some 12, _, _, _, _, _⟩) rfl _ _ rfl La 0 rfl (u32s s.list) (range_block hwr (hN5.below.block _ hR4.lt)) (by rw [u32s_length, list_len]; exact sz40) ?_))
  have lU : w.heap.size ≤ U := by have := hU.out; omega
  have n3 : R ≠ U := by have := hU.out; have := hRR4.lt; omega
  have h0 : SmRel w s 0 R U w5 := ⟨hRR4.old hN5.below, hR5, below_step bel4 z4 hN5.below⟩
  have N3 := Lib.hid n3
  clear hR4 bel4 hRR4 z4 hwr hU hR5 hN5 n3 w4
  go_loopw [13] (fun i wr => ∃ k : Nat, k ≤ 8 ∧ i = .int .i64 k ∧ SmRel w s k R U wr) (fun i _ => 8 - (intOf i).toNat)
  case atStart => exact ⟨0, by omega, rfl, h0⟩
  case round =>
    clear h0
    obtain ⟨k, hk, rfl, hS⟩ := hrel
    have hws : w.heap.size ≤ wr.heap.size := hS.bel.size
    by_cases hlt : k < 8
    · have hbx := getD_lt (list_lt hst) (by omega) k
      go_wp2_with (first
        | (with_reducible refine arm_index (o := ⟨some 16, _, _, _, _, _⟩) rfl _ _ _ rfl 8 47 (by kernel_rfl) .u32 (by kernel_rfl) (by kernel_rfl) (u32s s.list) rfl .i64 k rfl hlt _ (u32s_get (by rw [list_len]; exact hlt)) ?_)
        | (with_reducible refine arm_sliceLow (o := ⟨some 19, _, _, _, _, _⟩) rfl _ _ _ rfl 32 5 (by kernel_rfl) (by kernel_rfl) U 0 rfl .i64 _ rfl (4 * k) (by omega) (by omega) ?_)
        | (go_at_call 28; (refine (put_any U (4 * k) _ _ _ _ _ _ (by omega) (by omega) hbx hS.ru (by rw [u8s_length, fillO_len s k (by omega)]; omega)).mono ?_); rintro e w6 ⟨rfl, hR6, hO6, hS6⟩))
      go_roundw
      case rel => exact ⟨k + 1, by omega, by go_num, ⟨hS.rr.only hO6 N3.out, hR6.congr (fillO_step s k hlt), below_only hS.bel hO6 lU hws⟩⟩
      case measure => simp [intOf]; omega
    · obtain rfl : k = 8 := by omega
      go_wp2_with (first
        | (with_reducible refine arm_load (o := ⟨some 23, _, _, _, _, _⟩) rfl _ _ rfl U 0 rfl (u8s (fillO s 8)) (hS.ru.range 0 _ (fun j v hj => by rw [Nat.zero_add]; exact hj)) (by rw [u8s_length, fillO_len s 8 (by omega)]; exact sz25) ?_)
        | ((with_reducible refine arm_store (o := ⟨none, _, _, _, _, _⟩) rfl _ _ _ rfl R 0 rfl (u8s (fillO s 8)) rfl _ _ hS.rr (by rw [u8s_length, fillO_len s 8 (by omega), u8s_length, List.length_replicate]; omega) (u8s_one _) (by rw [u8s_length, fillO_len s 8 (by omega)]; exact sz25) ?_); intro w7 hR7 hO7 hS7))
      refine bodyPost_ret (v := .agg (u8s (fillO s 8)).toArray) (result_row (p := 2) (ty := 32) (u := 32) (by kernel_rfl) _ _ R _ rfl (hR7.congr (lay_all _ _ (by rw [u8s_length, u8s_length, fillO_len s 8 (by omega)]; simp))) (by rw [u8s_length, fillO_len s 8 (by omega)]; exact sz25)) rfl ⟨by rw [hdg.out, fillO_all], below_only hS.bel hO7 lR hws⟩

/-- Of: the digest of a slice's bytes. -/
theorem of_any (bs : List Nat) (cap : Nat) (p : Option Addr) (w : World) (hb : AllLt 256 bs) (hsz : bs.length ≤ 900000) (hcap : bs.length ≤ cap)
    (hp : bs ≠ [] → ∃ g o, p = some ⟨g, o, none⟩ ∧ w.rangeAt g o (u8s bs)) (hk : w.rangeAt 1 0 (u32s ks)) :
    Calls Tryd.prog 18 #[.slice p bs.length cap] w fun e w' => e = .returned (.agg (u8s (digest bs)).toArray) ∧ Below w.heap.size w w' := by
  have HK := Lib.hid hk
  have HP := Lib.hid hp
  have hk1 : 1 < w.heap.size := range_lt hk (by simp [u32s, ks])
  clear hk hp
  go_enter Tryd.func18, Tryd.ntmps18
  go_wp2_with (first
    | ((with_reducible refine arm_alloc (o := ⟨some 2, _, _, _, _, _⟩) rfl _ rfl _ z25 ?_); intro R w1 hRe hR1 hN1))
  refine (new_any w1).mono ?_
  rintro e w2 ⟨rfl, hR2, hN2⟩
  have e1 := hRe.out; have z1 := hN1.size; have z2 := hN2.size
  have bel2 : Below w.heap.size w w2 := below_step hN1.below (by omega) hN2.below
  have hRR2 := hR1.old hN2.below
  have lB : w.heap.size ≤ w1.heap.size := by omega
  have lR : w.heap.size ≤ R := by omega
  have n1 : R ≠ w1.heap.size := by omega
  have n2 : 1 ≠ w1.heap.size := by omega
  have z2' : w.heap.size ≤ w2.heap.size := by omega
  generalize w1.heap.size = B at hR2 lB n1 n2 ⊢
  have N1 := Lib.hid n1; have N2 := Lib.hid n2
  clear e1 z1 z2 hRe hR1 hN1 hN2 n1 n2 w1
  go_wp2_with fail
  refine (write_any [] bs B cap p w2 hR2 (fun x hx => by cases hx) hb (by simp; omega) hcap (fun hne => by
    obtain ⟨g, o, e, hrg⟩ := HP.out hne
    have hg := range_lt hrg (by intro h; apply hne; simpa [u8s] using h)
    exact ⟨g, o, e, by omega, range_block hrg (bel2.block g hg)⟩) (range_block HK.out (bel2.block _ hk1)) N2.out).mono ?_
  rintro e w3 ⟨rfl, hR3, hO3⟩
  rw [List.nil_append] at hR3
  have bel3 : Below w.heap.size w w3 := below_only bel2 hO3 lB z2'
  have hRR3 := hRR2.only hO3 N1.out
  have z3 := bel3.size
  clear bel2 hRR2 z2' hR2 hO3 w2
  go_wp2_with fail
  refine (sum_any bs B w3 hR3 hb hsz (range_block HK.out (bel3.block _ hk1))).mono ?_
  rintro e w4 ⟨rfl, hN4⟩
  have bel4 : Below w.heap.size w w4 := below_step bel3 z3 hN4
  have hRR4 := hRR3.old hN4
  have z4 := bel4.size
  go_wp2_with (first
    | ((with_reducible refine arm_store (o := ⟨none, _, _, _, _, _⟩) rfl _ _ _ rfl R 0 rfl (u8s (digest bs)) rfl _ _ hRR4 (by rw [u8s_length, u8s_length, List.length_replicate]; unfold digest; rw [outOf_len]; omega) (u8s_one _) (by rw [u8s_length]; unfold digest; rw [outOf_len]; exact sz25) ?_); intro w7 hR7 hO7 hS7))
  exact bodyPost_ret (v := .agg (u8s (digest bs)).toArray) (result_row (p := 2) (ty := 32) (u := 32) (by kernel_rfl) _ _ R _ rfl (hR7.congr (lay_all _ _ (by rw [u8s_length, u8s_length, List.length_replicate]; unfold digest; rw [outOf_len]))) (by rw [u8s_length]; unfold digest; rw [outOf_len]; exact sz25)) rfl ⟨rfl, below_only bel4 hO7 lR z4⟩
end Go.Proofs.YtebfdbibeecncaaDoor.Sha
