/-
  The walk of layer 2's statement ShaParts over this seat's translation, out of the contracts: it returns true, and changes nothing that was there.
-/
import Derived.Test.YtpkciokcegjcfaaDoorShaTab
namespace Go.Proofs.YtpkciokcegjcfaaDoor.Sha
open Go.ChangeShapes Go.WideShapes Go.ChangeAt Go.RowKit Go.Proofs.YtpkciokcegjcfaaDoor.Num Go.Proofs.YtpkciokcegjcfaaDoor.Mem
set_option linter.unusedVariables false

theorem Own.only {w w' : World} {base B : Nat} {p : Option Addr} {cap : Nat} {bs : List Nat} (h : Own w base p cap bs) (ho : Only B w w') (hB : B < base) : Own w' base p cap bs := by
  refine ⟨h.own.1, ?_⟩
  rcases h.own.2 with h2 | ⟨g, cap', cur, hv, hg, hh, r⟩
  · exact .inl h2
  · exact .inr ⟨g, cap', cur, hv, hg, by rw [ho.block g (Array.getElem?_eq_some_iff.1 hh).1 (by omega)]; exact hh, r⟩
theorem own_nil (w : World) (base : Nat) : Own w base none 0 [] := ⟨rfl, .inl ⟨rfl, rfl⟩⟩
theorem Own.bytes {w : World} {base : Nat} {p : Option Addr} {cap : Nat} {bs : List Nat} (h : Own w base p cap bs) : bs ≠ [] → ∃ g o, p = some ⟨g, o, none⟩ ∧ w.rangeAt g o (u8s bs) := fun hne => by
  obtain ⟨g, o, e, _, hr⟩ := h.at.2 hne
  exact ⟨g, o, e, hr⟩
/-- A slice of slices of bytes that came in. -/
structure BRows (w : World) (P : Option Addr) (n : Nat) : Prop where
  at_ : 0 < n → ∃ g o, P = some ⟨g, o, none⟩ ∧ g < w.heap.size ∧ ∀ i, i < n → ∃ p cap bs, w.cell? ⟨g, o + i, none⟩ = some (.slice p bs.length cap) ∧ Came w p cap bs
/-- What holds in ShaParts's loop. -/
structure PaRel (w : World) (B : Nat) (v : Value) (wr : World) : Prop where
  ex : ∃ zs : List Nat, ∃ p cap, v = .slice p zs.length cap ∧ zs.length ≤ 2000 ∧ AllLt 256 zs ∧ Own wr (B + 1) p cap zs ∧ Row wr B 44 (hcells zs)
  bel : Below w.heap.size w wr
  siz : B + 1 ≤ wr.heap.size

set_option maxRecDepth 100000 in
theorem shaParts_big (P : Option Addr) (n cap : Nat) (w : World) (hn : 50 < n) (hmax : n ≤ 9223372036854775807) (hk : w.rangeAt 1 0 (u32s ks)) :
    Calls Tryd.prog 4 #[.slice P n cap] w fun e w' => e = .returned (.bool true) ∧ Below w.heap.size w w' := by
  have HK := Lib.hid hk; clear hk
  go_enter Tryd.func4, Tryd.ntmps4
  go_wp2_with fail
  refine (awake_any w HK.out).mono ?_
  rintro e w1 ⟨rfl, h1⟩
  go_wp2_with fail
  go_ret
  exact ⟨rfl, h1⟩

set_option maxHeartbeats 1000000 in
set_option maxRecDepth 100000 in
theorem shaParts_small (P : Option Addr) (n capL : Nat) (w : World) (hn : n ≤ 50) (hl : BRows w P n) (hk : w.rangeAt 1 0 (u32s ks)) :
    Calls Tryd.prog 4 #[.slice P n capL] w fun e w' => e = .returned (.bool true) ∧ Below w.heap.size w w' := by
  have hl1 : 1 < w.heap.size := range_lt hk (by simp [u32s, ks])
  have HK := Lib.hid hk; have HL := Lib.hid hl.at_; clear hk hl
  have hkw : ∀ w', Below w.heap.size w w' → w'.rangeAt 1 0 (u32s ks) := fun w' hb => range_block HK.out (hb.block _ hl1)
  have HKW := Lib.hid hkw; clear hkw
  have hd50 : decide ((50 : Int) < (n : Int)) = false := decide_eq_false (by omega)
  go_enter Tryd.func4, Tryd.ntmps4
  go_wp2_with fail
  refine (awake_any w HK.out).mono ?_
  rintro e w1 ⟨rfl, h1⟩
  go_wp2_with fail
  refine (new_any w1).mono ?_
  rintro e w2 ⟨rfl, hR2, hN2⟩
  have lB : w.heap.size ≤ w1.heap.size := h1.size
  have z2 := hN2.size
  have nB : 1 ≠ w1.heap.size := by omega
  have bel2 : Below w.heap.size w w2 := below_step h1 lB hN2.below
  generalize w1.heap.size = B at hR2 lB z2 nB ⊢
  have h0 : PaRel w B (.slice none 0 0) w2 := ⟨⟨[], none, 0, rfl, by simp, lt_nil, own_nil _ _, hR2⟩, bel2, by omega⟩
  have NB := Lib.hid nB
  clear nB hR2 hN2 bel2 h1 z2 w1
  go_wp2_with fail
  go_loopw [15, 4] (fun i v wr => ∃ k : Nat, k ≤ n ∧ i = .int .i64 k ∧ PaRel w B v wr) (fun i _ _ => n - (intOf i).toNat)
  case atStart => exact ⟨0, by omega, rfl, h0⟩
  case round =>
    clear h0
    obtain ⟨k, hkn, rfl, ⟨⟨zs, q, qc, rfl, hal, halt, hOwn, hRow⟩, hbel, hsiz⟩⟩ := hrel
    by_cases hlt : k < n
    · obtain ⟨g, o, rfl, hg, hrows⟩ := HL.out (by omega)
      obtain ⟨p, cap, bs, hcell, hcame⟩ := hrows k hlt
      have hcw : wr.cell? ⟨g, o + k, none⟩ = some (.slice p bs.length cap) := by rw [hbel.cell (p := ⟨g, o + k, none⟩) hg]; exact hcell
      have hmx := hcame.max_
      have hcp := hcame.cap_
      unfold maxLen at hmx
      have HC := Lib.hid hcame
      clear hrows hcell hcame
      have ikn : (k : Int) < (n : Int) := by omega
      by_cases hbig : bs.length + zs.length ≤ 2000
      · have hnb : decide ((2000 : Int) - (zs.length : Int) < (bs.length : Int)) = false := decide_eq_false (by omega)
        go_wp2_with fail
        refine (write_any zs bs B cap p wr hRow halt HC.out.lt_ (by omega) hcp (fun hne => by
          obtain ⟨g', o', e, hr⟩ := HC.out.at_ hne
          have hg' := range_lt hr (by intro h; apply hne; simpa [u8s] using h)
          exact ⟨g', o', e, by omega, range_block hr (hbel.block g' hg')⟩) (HKW.out wr hbel) NB.out).mono ?_
        rintro e w3 ⟨rfl, hR3, hO3⟩
        have bel3 : Below w.heap.size w w3 := below_only hbel hO3 lB hbel.size
        have hOwn3 := hOwn.only hO3 (by omega)
        have siz3 : B + 1 ≤ w3.heap.size := Nat.le_trans hsiz hO3.size
        clear hRow hOwn hO3 hcw hbel hsiz
        go_wp2_with (first
          | ((refine arm_append (o := ⟨some 30, _, _, _, _, _⟩) rfl _ _ rfl (B + 1) _ _ _ zs rfl rfl hOwn3 p bs.length cap bs rfl rfl (fun e => ⟨by have := HC.out.nil_ e; omega, HC.out.nil_ e⟩) (fun hne => by obtain ⟨g', o', e, hr⟩ := HC.out.at_ hne; exact ⟨g', o', e, range_block hr (bel3.block g' (range_lt hr (by intro h; apply hne; simpa [u8s] using h)))⟩) (by omega) siz3 ?_); intro q4 qc4 w4 hOwn4 hB4))
        have hR4 : Row w4 B 44 (hcells (zs ++ bs)) := hR3.below hB4 (by omega)
        have bel4 : Below w.heap.size w w4 := bel3.trans (hB4.mono (by omega))
        have siz4 : B + 1 ≤ w4.heap.size := Nat.le_trans siz3 hB4.size
        have halt4 : AllLt 256 (zs ++ bs) := append_lt halt HC.out.lt_
        have hlen4 : (zs ++ bs).length = zs.length + bs.length := List.length_append
        clear hR3 hOwn3 hB4 bel3 siz3 w3
        rw [← hlen4]
        have hyl : (zs ++ bs).length ≤ 2000 := by omega
        clear hlen4
        generalize zs ++ bs = ys at hR4 hOwn4 halt4 hyl ⊢
        have hqc4 := hOwn4.at.1
        have hNE : ∀ w : World, (binOp .neq 25 (.agg (u8s (digest ys)).toArray) (.agg (u8s (digest ys)).toArray)).run Tryd.prog w = .ok (.bool false) w := run_neq_hash _ (digest_len _)
        generalize hdg : digest ys = dg at hNE
        have HDG := Lib.hid hdg; clear hdg
        refine (sum_any ys B w4 hR4 halt4 (by omega) (HKW.out w4 bel4)).mono ?_
        rintro e w5 ⟨rfl, hB5⟩
        have bel5 : Below w.heap.size w w5 := below_step bel4 bel4.size hB5
        have hOwn5 := hOwn4.below hB5
        have hR5 := hR4.old hB5
        have siz5 : B + 1 ≤ w5.heap.size := Nat.le_trans siz4 hB5.size
        rw [HDG.out]
        clear hB5 bel4 hOwn4 hR4 siz4 w4
        go_wp2_with fail
        refine (of_any ys qc4 q4 w5 halt4 (by omega) hqc4 hOwn5.bytes (HKW.out w5 bel5)).mono ?_
        rintro e w6 ⟨rfl, hB6⟩
        have bel6 : Below w.heap.size w w6 := below_step bel5 bel5.size hB6
        have hOwn6 := hOwn5.below hB6
        have hR6 := hR5.old hB6
        have siz6 : B + 1 ≤ w6.heap.size := Nat.le_trans siz5 hB6.size
        rw [HDG.out]
        clear hB6 bel5 hOwn5 hR5 siz5 w5
        go_wp2_with fail
        refine (sum_any ys B w6 hR6 halt4 (by omega) (HKW.out w6 bel6)).mono ?_
        rintro e w7 ⟨rfl, hB7⟩
        have bel7 : Below w.heap.size w w7 := below_step bel6 bel6.size hB7
        have hOwn7 := hOwn6.below hB7
        have hR7 := hR6.old hB7
        have siz7 : B + 1 ≤ w7.heap.size := Nat.le_trans siz6 hB7.size
        rw [HDG.out]
        clear hB7 bel6 hOwn6 hR6 siz6 w6
        go_wp2_with fail
        refine (of_any ys qc4 q4 w7 halt4 (by omega) hqc4 hOwn7.bytes (HKW.out w7 bel7)).mono ?_
        rintro e w8 ⟨rfl, hB8⟩
        have bel8 : Below w.heap.size w w8 := below_step bel7 bel7.size hB8
        have hOwn8 := hOwn7.below hB8
        have hR8 := hR7.old hB8
        have siz8 : B + 1 ≤ w8.heap.size := Nat.le_trans siz7 hB8.size
        rw [HDG.out]
        clear hB8 bel7 hOwn7 hR7 siz7 w7
        go_wp2_with fail
        refine (len_any ys B w8 hR8).mono ?_
        rintro e w9 ⟨rfl, rfl⟩
        go_wp2_with fail
        go_roundw
        case rel => exact ⟨k + 1, by omega, by go_num, ⟨⟨ys, q4, qc4, rfl, hyl, halt4, hOwn8, hR8⟩, bel8, siz8⟩⟩
        case measure => simp [intOf]; omega
      · have hnb : decide ((2000 : Int) - (zs.length : Int) < (bs.length : Int)) = true := decide_eq_true (by omega)
        go_wp2_with fail
        go_ret
        exact ⟨rfl, hbel⟩
    · obtain rfl : k = n := by omega
      have hqc := hOwn.at.1
      have hE : ∀ w : World, (binOp .eql 25 (.agg (u8s (digest zs)).toArray) (.agg (u8s (digest zs)).toArray)).run Tryd.prog w = .ok (.bool true) w := run_eql_hash _ (digest_len _)
      generalize hdg : digest zs = dg at hE
      have HDG := Lib.hid hdg; clear hdg
      go_wp2_with fail
      refine (sum_any zs B wr hRow halt (by omega) (HKW.out wr hbel)).mono ?_
      rintro e w5 ⟨rfl, hB5⟩
      have bel5 : Below w.heap.size w w5 := below_step hbel hbel.size hB5
      have hOwn5 := hOwn.below hB5
      rw [HDG.out]
      go_wp2_with fail
      refine (of_any zs qc q w5 halt (by omega) hqc hOwn5.bytes (HKW.out w5 bel5)).mono ?_
      rintro e w6 ⟨rfl, hB6⟩
      rw [HDG.out]
      go_wp2_with fail
      go_ret
      exact ⟨rfl, below_step bel5 bel5.size hB6⟩
end Go.Proofs.YtpkciokcegjcfaaDoor.Sha
