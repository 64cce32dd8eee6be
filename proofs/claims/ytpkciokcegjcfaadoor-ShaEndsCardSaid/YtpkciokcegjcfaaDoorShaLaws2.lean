/-
  The walk of layer 2's statement ShaEnds over this seat's translation, out of the contracts: it returns true, and changes nothing that was there.
-/
import Derived.Test.YtpkciokcegjcfaaDoorShaLaws
import Derived.Deep.OwnRows
namespace Go.Proofs.YtpkciokcegjcfaaDoor.Sha
open Go.ChangeShapes Go.WideShapes Go.ChangeAt Go.RowKit Go.Proofs.YtpkciokcegjcfaaDoor.Num Go.Proofs.YtpkciokcegjcfaaDoor.Mem
set_option linter.unusedVariables false

section
variable {ops : Array Oper} {rest : List Oper} {o : Oper} {a : Act} {w : World} {Q : Exit → Act → World → Prop}
theorem made_u8s (n : Nat) : madeCells #[.int .u8 0] n = (u8s (List.replicate n 0)).toArray := by
  apply Array.ext_getElem?
  intro i
  by_cases hi : i < n
  · have h := u8s_get (l := List.replicate n 0) (i := i) (by simpa using hi)
    have e : (u8s (List.replicate n 0)).toArray[i]? = (u8s (List.replicate n 0))[i]? := by simp
    rw [e, h]
    simp [madeCells, hi, Nat.mod_one]
  · rw [Array.getElem?_eq_none (by rw [size_madeCells]; omega), Array.getElem?_eq_none (by simp [u8s_length]; omega)]
/-- 'make([]byte, n)'. -/
theorem arm_make (hgd : o.guard = none) (l c : Operand) (ho : o.op = .makeSlice 22 l c) (i : Int) (hl : a.eval l = .int .i64 i) (hc : a.eval c = .int .i64 i) (n : Nat) (hn : i = (n : Int)) (hm : n ≤ 1000000)
    (h : ∀ b w2, Hid (b = w.heap.size) → Row w2 b 5 (u8s (List.replicate n 0)) → New w w2 → wpList Tryd.prog ops Q rest (a.put o.dst (.slice (some ⟨b, 0, none⟩) n n)) w2) : wpList Tryd.prog ops Q (o :: rest) a w := by
  subst hn
  refine wpList_plain hgd fun K hK => ?_
  have hr := run_make_row' (P := Tryd.prog) 22 5 (.int .u8 0) 1 (by kernel_rfl) info5 rfl .i64 .i64 n (by omega) (by omega) w
  rw [made_u8s] at hr
  unfold Oper.wp execOp
  simp only [ho, hl, hc, Sem.run_bind, hr, Result.andThen_ok, Sem.run_pure]
  exact hK _ _ (h _ _ rfl (heap_alloc_new _ _) (new_alloc _ _))
end
theorem fill_set (n k c : Nat) (h : k < n) : (u8s (List.replicate k c ++ List.replicate (n - k) 0)).set k (.int .u8 (c : Int)) = u8s (List.replicate (k + 1) c ++ List.replicate (n - (k + 1)) 0) := by
  rw [show n - k = (n - (k + 1)) + 1 from by omega, List.replicate_succ, List.replicate_succ' (n := k)]
  unfold u8s
  rw [List.map_append, List.set_append_right _ _ (by simp), List.map_append, List.map_append]
  simp
structure EnRel (w : World) (B n c k : Nat) (wr : World) : Prop where
  row : Row wr B 5 (u8s (List.replicate k c ++ List.replicate (n - k) 0))
  bel : Below w.heap.size w wr

set_option maxHeartbeats 1000000 in
set_option maxRecDepth 100000 in
theorem shaEnds_any (c m : Nat) (w : World) (hc : c < 256) (hm : m < 256) (hk : w.rangeAt 1 0 (u32s ks)) (hk2 : w.rangeAt 0 0 (u32s ks)) :
    Calls Tryd.prog 5 #[.int .u8 (c : Int), .int .u8 (m : Int)] w fun e w' => e = .returned (.bool true) ∧ Below w.heap.size w w' := by
  have hl1 : 1 < w.heap.size := range_lt hk (by simp [u32s, ks])
  have hl2 : 0 < w.heap.size := range_lt hk2 (by simp [u32s, ks])
  have HK := Lib.hid hk; have HK2 := Lib.hid hk2; clear hk hk2
  obtain ⟨n, hn⟩ : ∃ n : Nat, n = m % 201 := ⟨_, rfl⟩
  have hn2 : n ≤ 200 := by omega
  have HN := Lib.hid hn; clear hn
  go_enter Tryd.func5, Tryd.ntmps5
  go_wp2_with fail
  refine (awake_any w HK.out).mono ?_
  rintro e w1 ⟨rfl, h1⟩
  go_wp2_with (first
    | ((refine arm_make (o := ⟨some 13, _, _, _, _, _⟩) rfl _ _ rfl _ rfl rfl n (by have := HN.out; omega) (by omega) ?_); intro B w2 hB hR2 hN2))
  have lB : w.heap.size ≤ B := by have := hB.out; have := h1.size; omega
  have h2 : EnRel w B n c 0 w2 := ⟨hR2, below_step h1 h1.size hN2.below⟩
  clear hB hR2 hN2 h1 w1
  go_loopw [16] (fun i wr => ∃ k : Nat, k ≤ n ∧ i = .int .i64 k ∧ EnRel w B n c k wr) (fun i _ => n - (intOf i).toNat)
  case atStart => exact ⟨0, by omega, rfl, h2⟩
  case round =>
    clear h2
    obtain ⟨k, hkn, rfl, hS⟩ := hrel
    have hws : w.heap.size ≤ wr.heap.size := hS.bel.size
    by_cases hlt : k < n
    · go_wp2_with (first
        | ((refine arm_store1 (o := ⟨none, _, _, _, _, _⟩) rfl _ _ _ rfl B k rfl .u8 _ rfl (by kernel_rfl) _ _ hS.row (by rw [u8s_length]; simp; omega) ?_); intro w3 hR3 hO3 hS3))
      go_roundw
      case rel => exact ⟨k + 1, by omega, by go_num, ⟨hR3.congr (fill_set n k c hlt), below_only hS.bel hO3 lB hws⟩⟩
      case measure => simp [intOf]; omega
    · obtain rfl : k = n := by omega
      obtain ⟨bs, hbl, hblt, hrow⟩ : ∃ bs : List Nat, bs.length = k ∧ AllLt 256 bs ∧ Row wr B 5 (u8s bs) := ⟨List.replicate k c, List.length_replicate, fun x hx => (by rw [List.eq_of_mem_replicate hx]; exact hc), hS.row.congr (by simp)⟩
      have h3 := hS.bel
      clear hS hlt hkn HN
      subst hbl
      have hpB : ∀ w', Below wr.heap.size wr w' → bs ≠ [] → ∃ g o, (some ⟨B, 0, none⟩ : Option Addr) = some ⟨g, o, none⟩ ∧ w'.rangeAt g o (u8s bs) := fun w' hb _ => ⟨B, 0, rfl, (hrow.old hb).range 0 _ (fun j v hj => by rw [Nat.zero_add]; exact hj)⟩
      have HPB := Lib.hid hpB
      clear hpB hrow
      have hE : ∀ w : World, (binOp .eql 25 (.agg (u8s (digest bs)).toArray) (.agg (u8s (digest bs)).toArray)).run Tryd.prog w = .ok (.bool true) w := run_eql_hash _ (digest_len _)
      have hE2 : ∀ w : World, (binOp .eql 25 (.agg (u8s (digest (padded bs))).toArray) (.agg (u8s (digest (padded bs))).toArray)).run Tryd.prog w = .ok (.bool true) w := run_eql_hash _ (digest_len _)
      obtain ⟨hm64, hlo, hhi⟩ := padded_len bs
      have hplt := padded_lt hblt
      have hpne : padded bs ≠ [] := by intro h; rw [h] at hlo; simp at hlo
      generalize hdg : digest bs = dg at hE
      generalize hdp : digest (padded bs) = dp at hE2
      have HDG := Lib.hid hdg; have HDP := Lib.hid hdp; clear hdg hdp
      go_wp2_with fail
      refine (padded_any bs _ _ wr hblt (by omega) (Nat.le_refl _) (fun h => by cases h) (HPB.out wr (Below.refl _ _))).mono ?_
      rintro e w4 ⟨⟨q, qc, rfl, hOwn⟩, hB4⟩
      obtain ⟨hqc, hat⟩ := hOwn.at
      obtain ⟨g, go, rfl, hgl, hrg⟩ := hat hpne
      have HPQ := Lib.hid (fun w' (hb : Below w4.heap.size w4 w') => range_block hrg (hb.block g (range_lt hrg (by intro h; apply hpne; simpa [u8s] using h))) : ∀ w', Below w4.heap.size w4 w' → w'.rangeAt g go (u8s (padded bs)))
      generalize hpg : padded bs = ps at *
      have HPG := Lib.hid hpg; clear hpg hOwn hat hrg
      have hmm : (((ps.length : Int) % 64) == 0) = true := beq_iff_eq.2 (by omega)
      have b4 : Below w.heap.size w w4 := below_step h3 h3.size hB4
      go_wp2_with fail
      refine (of_any bs _ _ w4 hblt (by omega) (Nat.le_refl _) (HPB.out w4 hB4) (range_block HK.out (b4.block _ hl1))).mono ?_
      rintro e w5 ⟨rfl, hB5⟩
      have r5 : Below wr.heap.size wr w5 := below_step hB4 hB4.size hB5
      have q5 : Below w4.heap.size w4 w5 := hB5
      have b5 : Below w.heap.size w w5 := below_step b4 b4.size hB5
      rw [HDG.out]
      go_wp2_with fail
      refine (refOf_any bs _ _ w5 hblt (by omega) (Nat.le_refl _) (fun h => by cases h) (HPB.out w5 r5) (range_block HK2.out (b5.block _ hl2))).mono ?_
      rintro e w6 ⟨rfl, hB6⟩
      have q6 : Below w4.heap.size w4 w6 := below_step q5 q5.size hB6
      have b6 : Below w.heap.size w w6 := below_step b5 b5.size hB6
      rw [HDG.out]
      go_wp2_with fail
      refine (of_any ps qc _ w6 hplt (by omega) hqc (fun _ => ⟨g, go, rfl, HPQ.out w6 q6⟩) (range_block HK.out (b6.block _ hl1))).mono ?_
      rintro e w7 ⟨rfl, hB7⟩
      have q7 : Below w4.heap.size w4 w7 := below_step q6 q6.size hB7
      have b7 : Below w.heap.size w w7 := below_step b6 b6.size hB7
      rw [HDP.out]
      go_wp2_with fail
      refine (refOf_any ps _ qc w7 hplt (by omega) hqc (fun h => by cases h) (fun _ => ⟨g, go, rfl, HPQ.out w7 q7⟩) (range_block HK2.out (b7.block _ hl2))).mono ?_
      rintro e w8 ⟨rfl, hB8⟩
      rw [HDP.out]
      go_wp2_with fail
      go_ret
      exact ⟨rfl, below_step b7 b7.size hB8⟩
end Go.Proofs.YtpkciokcegjcfaaDoor.Sha
