/-
  The walk of layer 4's statement WireReads over this seat's translation, out of the contracts: it returns true, and changes nothing that was there.
-/
import Derived.Test.YticdapgfjkhoaaaWireRef3
namespace Go.Proofs.Yticdapgfjkhoaaa.Wi
open Go.ChangeShapes Go.WideShapes Go.ChangeAt Go.RowKit Go.Proofs.Yticdapgfjkhoaaa.Mem Go.Proofs.Yticdapgfjkhoaaa.Bt Go.Proofs.Yticdapgfjkhoaaa.Tg Go.Proofs.Yticdapgfjkhoaaa.Sha
set_option linter.unusedVariables false
set_option linter.unusedSimpArgs false

/-- The program's reader has changed: the document's has not. -/
theorem RfAt.keepR {w w' : World} {S D R d : Nat} {s t : RS} (h : RfAt w S D s) (hA : RdAt w R d t) (ho : Only R w w') (hne : S ≠ R) : RfAt w' S D s := by
  obtain ⟨p, cap, hA⟩ := hA.ex
  exact h.only hA.row (rcells_no _ _ _) ho hne
/-- The document's reader has changed: the program's has not. -/
theorem RdAt.keepF {w w' : World} {S D R d : Nat} {s t : RS} (h : RdAt w R d s) (hF : RfAt w S D t) (ho : Only S w w') (hne : R ≠ S) : RdAt w' R d s := by
  obtain ⟨p, cap, B, a, e, hF, _⟩ := hF.ex
  exact h.only hF.row (fcells_no _ _ _ _ _) ho hne
theorem RfAt.keep_rd {w w' : World} {S D : Nat} {t : RS} {q : Option Addr} {bs : List Nat} (hF : RfAt w S D t) (ho : Only S w w') (h : Rd w q bs) : Rd w' q bs := by
  obtain ⟨p, cap, B, a, e, hF, _⟩ := hF.ex
  exact Rd_only h hF.row (fcells_no _ _ _ _ _) ho
theorem built_ref (p : Option Addr) (n c : Nat) : Try.prog.built 45 [(0, .slice p n c)] = some [.slice p n c, .int .i64 0, .int .i64 0].toArray := by kernel_rfl
/-- What holds while both read. -/
structure RrRel (w : World) (R d S : Nat) (l : List Thing) (i : Value) (wr : World) : Prop where
  ex : ∃ k : Nat, k ≤ l.length ∧ i = .int .i64 k ∧ ∃ s, s.1.length ≤ 3000 ∧ RdAt wr R d s ∧ RfAt wr S w.heap.size s
  bel : Below w.heap.size w wr
theorem textR_state (m : Int) (s : RS) : (textR m s).2.1.length ≤ s.1.length := by
  unfold textR
  split
  · simp
  · exact Nat.le_trans (takeR_left _ _) (takeR_left _ _)

set_option maxHeartbeats 4000000 in
set_option maxRecDepth 100000 in
theorem wireReads_any (b : List Nat) (q : Option Addr) (qc : Nat) (l : List Thing) (P : Option Addr) (capL : Nat) (w : World) (hb : Came w q qc b) (hl : Things w P l) (hm : l.length ≤ maxLen) :
    Calls Try.prog 4 #[.slice q b.length qc, .slice P l.length capL] w fun e w' => e = .returned (.bool true) ∧ Below w.heap.size w w' := by
  have HL := Lib.hid hl; have HM := Lib.hid hm; have HB := Lib.hid hb
  have hcp := hb.cap_
  have hmx := hb.max_
  unfold maxLen at hmx
  clear hl hm hb
  by_cases hlong : b.length ≤ 3000
  · have hd0 : decide ((3000 : Int) < (b.length : Int)) = false := decide_eq_false (by omega)
    go_enter Try.func4, Try.ntmps4
    go_wp2_with fail
    refine (awake_any w).mono ?_
    rintro e w1 ⟨rfl, h1⟩
    go_wp2_with fail
    refine (large_any l P capL w1 (HL.out.below h1) HM.out).mono ?_
    rintro e w2 ⟨⟨big, rfl, hbig⟩, hB2⟩
    have bel2 : Below w.heap.size w w2 := below_step h1 h1.size hB2
    clear hB2 h1
    cases big with
    | true =>
      go_wp2_with fail
      go_ret
      exact ⟨rfl, bel2⟩
    | false =>
      have HBIG := Lib.hid (hbig rfl)
      have hn100 := (hbig rfl).1
      clear hbig
      go_wp2_with fail
      refine (rNew_any b q qc w2 (HB.out.below bel2).rd (fun e => ⟨by have h1 := HB.out.nil_ e; omega, HB.out.nil_ e⟩) (by omega) HB.out.lt_).mono ?_
      rintro e w3 ⟨⟨R, d, rfl, hA3, hlR0, _⟩, hB3⟩
      have bel3 : Below w.heap.size w w3 := below_step bel2 bel2.size hB3
      have lR : w.heap.size ≤ R := Nat.le_trans bel2.size hlR0
      clear hB3 hlR0 bel2
      go_wp2_with (first
        | ((with_reducible refine at_slot 22 ?_); (refine arm_build (o := ⟨some 22, _, _, _, _, _⟩) rfl _ _ rfl [.slice q b.length qc, .int .i64 0, .int .i64 0] (by simp only [List.map_toArray, List.map_cons, List.map_nil]; exact built_ref _ _ _) ?_))
        | ((with_reducible refine at_slot 23 ?_); (refine arm_box (o := ⟨some 23, _, _, _, _, _⟩) rfl _ _ rfl [.slice q b.length qc, .int .i64 0, .int .i64 0] rfl ?_); intro S w4 hS hR4 hN4))
      have eS := hS.out
      have bel4 : Below w.heap.size w w4 := below_step bel3 bel3.size hN4.below
      have lS : w.heap.size ≤ S := by have := bel3.size; omega
      have HRS : Hid (R ≠ S) := Lib.hid (by have := hA3.row_lt; omega)
      have hF4 : RfAt w4 S w.heap.size (b, 0) := ⟨q, qc, b, 0, 0, ⟨hR4, (HB.out.below bel4).rd, hcp, HB.out.nil_, HB.out.lt_, by omega, fun hne k hk => by
        obtain ⟨g, o, e, hr⟩ := HB.out.at_ hne
        have h2 : g < w.heap.size := range_lt hr (by intro h; apply hne; simpa [u8s] using h)
        rw [e] at hk
        have h3 : g = k := Option.some.inj hk
        omega, bel4.size⟩, by rw [absR_ok, List.drop_zero], by omega⟩
      have h0 : RrRel w R d S l (.int .i64 0) w4 := ⟨⟨0, by omega, rfl, (b, 0), hlong, hA3.old hN4.below, hF4⟩, bel4⟩
      clear eS hS hR4 hN4 hF4 hA3 bel3 bel4 hd0
      go_loopw [26] (fun i wr => RrRel w R d S l i wr) (fun i _ => l.length - (intOf i).toNat)
      case atStart => exact h0
      case round =>
       clear h0
       obtain ⟨⟨k, hk, rfl, s, hsl, hA, hF⟩, hbel⟩ := hrel
       have HSL := Lib.hid hsl; clear hsl
       by_cases hlt : k < l.length
       · obtain ⟨g, o, rfl, hg, hrows⟩ := HL.out.at_ (by omega)
         obtain ⟨hrg, hok⟩ := hrows k hlt
         have hrw := range_block hrg (hbel.block g hg)
         clear hrows hrg
         have hxb : (l.getD k default).b.length ≤ 300 := HBIG.out.2 _ (getD_mem l k hlt)
         obtain ⟨x, hx⟩ : ∃ x, x = l.getD k default := ⟨_, rfl⟩
         rw [← hx] at hrw hok hxb
         have HX := Lib.hid hx; clear hx
         have HTL := Lib.hid (tcells_len hok.h_)
         have HT1 := Lib.hid (tcells_one x)
         obtain ⟨tc, htc⟩ : ∃ tc, tc = tcells x := ⟨_, rfl⟩
         have HTC := Lib.hid htc
         rw [← htc] at hrw HTL HT1
         have HOK := Lib.hid hok; clear htc hok
         have ik : (k : Int) < (l.length : Int) := by omega
         have H0 : Hid (tc[0]? = some (.int .i64 x.kind)) := Lib.hid (by rw [HTC.out]; rfl)
         have H35 : Hid (tc[35]? = some (.int .i64 x.most)) := Lib.hid (by rw [HTC.out]; exact tcells35 HOK.out.h_)
         by_cases k0 : x.kind = 0
         ·
            rw [k0] at H0
            clear k0
            go_wp2_with (first
              | ((with_reducible refine at_slot 28 ?_); (refine arm_indexN (o := ⟨some 28, _, _, _, _, _⟩) rfl _ _ _ rfl 33 36 (by kernel_rfl) (by kernel_rfl) g o _ _ rfl .i64 k rfl hlt ?_))
              | ((with_reducible refine at_slot 29 ?_); (refine arm_load (o := ⟨some 29, _, _, _, _, _⟩) rfl _ _ rfl g (o + k * 36) rfl tc hrw (by rw [HTL.out]; exact sz_thing) ?_))
              | ((with_reducible refine at_slot 8 ?_); (refine arm_alloc (o := ⟨some 8, _, _, _, _, _⟩) rfl _ rfl zcells z_thing ?_); intro X w4 hXe hR4 hN4)
              | ((with_reducible refine arm_store (o := ⟨none, _, _, _, _, _⟩) rfl _ _ _ rfl X 0 rfl tc rfl _ _ hR4 (by rw [HTL.out, zcells_len]; omega) HT1.out (by rw [HTL.out]; exact sz_thing) ?_); intro w5 hR5 hO5 hS5; have hX5 := hR5.congr (lay_all _ _ (by rw [HTL.out, zcells_len])); have c0 := hX5.cell H0.out; have c35 := hX5.cell H35.out))
            have eX := hXe.out
            have bel5 : Below wr.heap.size wr w5 := below_only hN4.below hO5 (by omega) hN4.below.size
            have bel05 : Below w.heap.size w w5 := below_step hbel hbel.size bel5
            have hA5 := hA.old bel5
            have hF5 := hF.old bel5
            have HXn : Hid (X ≠ R ∧ X ≠ S) := Lib.hid ⟨by have := hA.row_lt; omega, by have := hF.row_lt; omega⟩
            clear eX hXe hR4 hN4 hR5 hO5 hS5 hrw hA hF hbel bel5 c0 c35
            refine (rByte_any R d s w5 hA5 (by have := HSL.out; omega)).mono ?_
            rintro e y1 ⟨rfl, hA1, hO1⟩
            have hF1 := hF5.keepR hA5 hO1 (Ne.symm HRS.out)
            generalize hnn : (numR 1 s).1 = nn
            have HNN := Lib.hid hnn; clear hnn
            have hnlt : nn < 256 ^ 1 := by rw [← HNN.out]; exact numR_lt hA5.lt
            go_wp2_with fail
            refine (fNumber_any 1 S w.heap.size s y1 hF1 (by omega)).mono ?_
            rw [HNN.out]
            rintro e y2 ⟨rfl, hFf, hO2⟩
            have hAf := hA1.keepF hF1 hO2 HRS.out
            have belf : Below w.heap.size w y2 := below_only (below_only bel05 hO1 lR bel05.size) hO2 lS (Nat.le_trans bel05.size hO1.size)
            have HSLf : Hid (((numR 1 s).2).1.length ≤ 3000) := Lib.hid (Nat.le_trans (takeR_left 1 s) HSL.out)
            clear hA5 hF5 hA1 hF1 hO1 hO2 bel05 hX5
            go_wp2_with fail
            refine (rLeft_any R d _ y2 hAf).mono ?_
            rintro e z0 ⟨rfl, rfl⟩
            go_wp2_with fail
            refine (fLeft_any S w.heap.size _ y2 hFf).mono ?_
            rintro e z1 ⟨rfl, hB1⟩
            have hA1 := hAf.old hB1
            have hF1 := hFf.old hB1
            have belz1 : Below w.heap.size w z1 := below_step belf belf.size hB1
            clear hAf hFf hB1 belf
            go_wp2_with fail
            refine (rEnd_any R d _ z1 hA1).mono ?_
            rintro e z2 ⟨rfl, rfl⟩
            go_wp2_with fail
            refine (fEnd_any S w.heap.size _ z1 hF1).mono ?_
            rintro e z3 ⟨rfl, hB3⟩
            have hA3 := hA1.old hB3
            have hF3 := hF1.old hB3
            have belz3 : Below w.heap.size w z3 := below_step belz1 belz1.size hB3
            clear hA1 hF1 hB3 belz1
            go_wp2_with fail
            go_roundw
            case rel => exact ⟨⟨k + 1, by omega, by go_num, _, HSLf.out, hA3, hF3⟩, belz3⟩
            case measure => simp [intOf]; omega
         by_cases k1 : x.kind = 1
         ·
            rw [k1] at H0
            clear k0 k1
            go_wp2_with (first
              | ((with_reducible refine at_slot 28 ?_); (refine arm_indexN (o := ⟨some 28, _, _, _, _, _⟩) rfl _ _ _ rfl 33 36 (by kernel_rfl) (by kernel_rfl) g o _ _ rfl .i64 k rfl hlt ?_))
              | ((with_reducible refine at_slot 29 ?_); (refine arm_load (o := ⟨some 29, _, _, _, _, _⟩) rfl _ _ rfl g (o + k * 36) rfl tc hrw (by rw [HTL.out]; exact sz_thing) ?_))
              | ((with_reducible refine at_slot 8 ?_); (refine arm_alloc (o := ⟨some 8, _, _, _, _, _⟩) rfl _ rfl zcells z_thing ?_); intro X w4 hXe hR4 hN4)
              | ((with_reducible refine arm_store (o := ⟨none, _, _, _, _, _⟩) rfl _ _ _ rfl X 0 rfl tc rfl _ _ hR4 (by rw [HTL.out, zcells_len]; omega) HT1.out (by rw [HTL.out]; exact sz_thing) ?_); intro w5 hR5 hO5 hS5; have hX5 := hR5.congr (lay_all _ _ (by rw [HTL.out, zcells_len])); have c0 := hX5.cell H0.out; have c35 := hX5.cell H35.out))
            have eX := hXe.out
            have bel5 : Below wr.heap.size wr w5 := below_only hN4.below hO5 (by omega) hN4.below.size
            have bel05 : Below w.heap.size w w5 := below_step hbel hbel.size bel5
            have hA5 := hA.old bel5
            have hF5 := hF.old bel5
            have HXn : Hid (X ≠ R ∧ X ≠ S) := Lib.hid ⟨by have := hA.row_lt; omega, by have := hF.row_lt; omega⟩
            clear eX hXe hR4 hN4 hR5 hO5 hS5 hrw hA hF hbel bel5 c0 c35
            refine (rNum_any R d s w5 hA5 (by have := HSL.out; omega)).mono ?_
            rintro e y1 ⟨rfl, hA1, hO1⟩
            have hF1 := hF5.keepR hA5 hO1 (Ne.symm HRS.out)
            generalize hnn : (numR 4 s).1 = nn
            have HNN := Lib.hid hnn; clear hnn
            have hnlt : nn < 256 ^ 4 := by rw [← HNN.out]; exact numR_lt hA5.lt
            go_wp2_with fail
            refine (fNumber_any 4 S w.heap.size s y1 hF1 (by omega)).mono ?_
            rw [HNN.out]
            rintro e y2 ⟨rfl, hFf, hO2⟩
            have hAf := hA1.keepF hF1 hO2 HRS.out
            have belf : Below w.heap.size w y2 := below_only (below_only bel05 hO1 lR bel05.size) hO2 lS (Nat.le_trans bel05.size hO1.size)
            have HSLf : Hid (((numR 4 s).2).1.length ≤ 3000) := Lib.hid (Nat.le_trans (takeR_left 4 s) HSL.out)
            clear hA5 hF5 hA1 hF1 hO1 hO2 bel05 hX5
            go_wp2_with fail
            refine (rLeft_any R d _ y2 hAf).mono ?_
            rintro e z0 ⟨rfl, rfl⟩
            go_wp2_with fail
            refine (fLeft_any S w.heap.size _ y2 hFf).mono ?_
            rintro e z1 ⟨rfl, hB1⟩
            have hA1 := hAf.old hB1
            have hF1 := hFf.old hB1
            have belz1 : Below w.heap.size w z1 := below_step belf belf.size hB1
            clear hAf hFf hB1 belf
            go_wp2_with fail
            refine (rEnd_any R d _ z1 hA1).mono ?_
            rintro e z2 ⟨rfl, rfl⟩
            go_wp2_with fail
            refine (fEnd_any S w.heap.size _ z1 hF1).mono ?_
            rintro e z3 ⟨rfl, hB3⟩
            have hA3 := hA1.old hB3
            have hF3 := hF1.old hB3
            have belz3 : Below w.heap.size w z3 := below_step belz1 belz1.size hB3
            clear hA1 hF1 hB3 belz1
            go_wp2_with fail
            go_roundw
            case rel => exact ⟨⟨k + 1, by omega, by go_num, _, HSLf.out, hA3, hF3⟩, belz3⟩
            case measure => simp [intOf]; omega
         by_cases k2 : x.kind = 2
         ·
            rw [k2] at H0
            clear k0 k1 k2
            go_wp2_with (first
              | ((with_reducible refine at_slot 28 ?_); (refine arm_indexN (o := ⟨some 28, _, _, _, _, _⟩) rfl _ _ _ rfl 33 36 (by kernel_rfl) (by kernel_rfl) g o _ _ rfl .i64 k rfl hlt ?_))
              | ((with_reducible refine at_slot 29 ?_); (refine arm_load (o := ⟨some 29, _, _, _, _, _⟩) rfl _ _ rfl g (o + k * 36) rfl tc hrw (by rw [HTL.out]; exact sz_thing) ?_))
              | ((with_reducible refine at_slot 8 ?_); (refine arm_alloc (o := ⟨some 8, _, _, _, _, _⟩) rfl _ rfl zcells z_thing ?_); intro X w4 hXe hR4 hN4)
              | ((with_reducible refine arm_store (o := ⟨none, _, _, _, _, _⟩) rfl _ _ _ rfl X 0 rfl tc rfl _ _ hR4 (by rw [HTL.out, zcells_len]; omega) HT1.out (by rw [HTL.out]; exact sz_thing) ?_); intro w5 hR5 hO5 hS5; have hX5 := hR5.congr (lay_all _ _ (by rw [HTL.out, zcells_len])); have c0 := hX5.cell H0.out; have c35 := hX5.cell H35.out))
            have eX := hXe.out
            have bel5 : Below wr.heap.size wr w5 := below_only hN4.below hO5 (by omega) hN4.below.size
            have bel05 : Below w.heap.size w w5 := below_step hbel hbel.size bel5
            have hA5 := hA.old bel5
            have hF5 := hF.old bel5
            have HXn : Hid (X ≠ R ∧ X ≠ S) := Lib.hid ⟨by have := hA.row_lt; omega, by have := hF.row_lt; omega⟩
            clear eX hXe hR4 hN4 hR5 hO5 hS5 hrw hA hF hbel bel5 c0 c35
            refine (rLong_any R d s w5 hA5 (by have := HSL.out; omega)).mono ?_
            rintro e y1 ⟨rfl, hA1, hO1⟩
            have hF1 := hF5.keepR hA5 hO1 (Ne.symm HRS.out)
            generalize hnn : (numR 8 s).1 = nn
            have HNN := Lib.hid hnn; clear hnn
            have hnlt : nn < 256 ^ 8 := by rw [← HNN.out]; exact numR_lt hA5.lt
            go_wp2_with fail
            refine (fNumber_any 8 S w.heap.size s y1 hF1 (by omega)).mono ?_
            rw [HNN.out]
            rintro e y2 ⟨rfl, hFf, hO2⟩
            have hAf := hA1.keepF hF1 hO2 HRS.out
            have belf : Below w.heap.size w y2 := below_only (below_only bel05 hO1 lR bel05.size) hO2 lS (Nat.le_trans bel05.size hO1.size)
            have HSLf : Hid (((numR 8 s).2).1.length ≤ 3000) := Lib.hid (Nat.le_trans (takeR_left 8 s) HSL.out)
            clear hA5 hF5 hA1 hF1 hO1 hO2 bel05 hX5
            go_wp2_with fail
            refine (rLeft_any R d _ y2 hAf).mono ?_
            rintro e z0 ⟨rfl, rfl⟩
            go_wp2_with fail
            refine (fLeft_any S w.heap.size _ y2 hFf).mono ?_
            rintro e z1 ⟨rfl, hB1⟩
            have hA1 := hAf.old hB1
            have hF1 := hFf.old hB1
            have belz1 : Below w.heap.size w z1 := below_step belf belf.size hB1
            clear hAf hFf hB1 belf
            go_wp2_with fail
            refine (rEnd_any R d _ z1 hA1).mono ?_
            rintro e z2 ⟨rfl, rfl⟩
            go_wp2_with fail
            refine (fEnd_any S w.heap.size _ z1 hF1).mono ?_
            rintro e z3 ⟨rfl, hB3⟩
            have hA3 := hA1.old hB3
            have hF3 := hF1.old hB3
            have belz3 : Below w.heap.size w z3 := below_step belz1 belz1.size hB3
            clear hA1 hF1 hB3 belz1
            go_wp2_with fail
            go_roundw
            case rel => exact ⟨⟨k + 1, by omega, by go_num, _, HSLf.out, hA3, hF3⟩, belz3⟩
            case measure => simp [intOf]; omega
         by_cases k3 : x.kind = 3
         ·
            rw [k3] at H0
            clear k0 k1 k2 k3
            go_wp2_with (first
              | ((with_reducible refine at_slot 28 ?_); (refine arm_indexN (o := ⟨some 28, _, _, _, _, _⟩) rfl _ _ _ rfl 33 36 (by kernel_rfl) (by kernel_rfl) g o _ _ rfl .i64 k rfl hlt ?_))
              | ((with_reducible refine at_slot 29 ?_); (refine arm_load (o := ⟨some 29, _, _, _, _, _⟩) rfl _ _ rfl g (o + k * 36) rfl tc hrw (by rw [HTL.out]; exact sz_thing) ?_))
              | ((with_reducible refine at_slot 8 ?_); (refine arm_alloc (o := ⟨some 8, _, _, _, _, _⟩) rfl _ rfl zcells z_thing ?_); intro X w4 hXe hR4 hN4)
              | ((with_reducible refine arm_store (o := ⟨none, _, _, _, _, _⟩) rfl _ _ _ rfl X 0 rfl tc rfl _ _ hR4 (by rw [HTL.out, zcells_len]; omega) HT1.out (by rw [HTL.out]; exact sz_thing) ?_); intro w5 hR5 hO5 hS5; have hX5 := hR5.congr (lay_all _ _ (by rw [HTL.out, zcells_len])); have c0 := hX5.cell H0.out; have c35 := hX5.cell H35.out))
            have eX := hXe.out
            have bel5 : Below wr.heap.size wr w5 := below_only hN4.below hO5 (by omega) hN4.below.size
            have bel05 : Below w.heap.size w w5 := below_step hbel hbel.size bel5
            have hA5 := hA.old bel5
            have hF5 := hF.old bel5
            have HXn : Hid (X ≠ R ∧ X ≠ S) := Lib.hid ⟨by have := hA.row_lt; omega, by have := hF.row_lt; omega⟩
            clear eX hXe hR4 hN4 hR5 hO5 hS5 hrw hA hF hbel bel5 c0 c35
            refine (rHash_any R d s w5 hA5 (by have := HSL.out; omega)).mono ?_
            rintro e y1 ⟨rfl, hA1, hO1⟩
            have hF1 := hF5.keepR hA5 hO1 (Ne.symm HRS.out)
            have hE : ∀ w : World, (binOp .eql 31 (.agg (u8s (hashR s).1).toArray) (.agg (u8s (hashR s).1).toArray)).run Try.prog w = .ok (.bool true) w := run_eql_hash _ (hashR_len s)
            generalize hnn : (hashR s).1 = hh at hE
            have HNN := Lib.hid hnn; clear hnn
            go_wp2_with fail
            refine (fHash_any S w.heap.size s y1 hF1).mono ?_
            rw [HNN.out]
            rintro e y2 ⟨rfl, hFf, hO2⟩
            have hAf := hA1.keepF hF1 hO2 HRS.out
            have belf : Below w.heap.size w y2 := below_only (below_only bel05 hO1 lR bel05.size) hO2 lS (Nat.le_trans bel05.size hO1.size)
            have HSLf : Hid (((hashR s).2).1.length ≤ 3000) := Lib.hid (Nat.le_trans (takeR_left 32 s) HSL.out)
            clear hA5 hF5 hA1 hF1 hO1 hO2 bel05 hX5
            go_wp2_with fail
            refine (rLeft_any R d _ y2 hAf).mono ?_
            rintro e z0 ⟨rfl, rfl⟩
            go_wp2_with fail
            refine (fLeft_any S w.heap.size _ y2 hFf).mono ?_
            rintro e z1 ⟨rfl, hB1⟩
            have hA1 := hAf.old hB1
            have hF1 := hFf.old hB1
            have belz1 : Below w.heap.size w z1 := below_step belf belf.size hB1
            clear hAf hFf hB1 belf
            go_wp2_with fail
            refine (rEnd_any R d _ z1 hA1).mono ?_
            rintro e z2 ⟨rfl, rfl⟩
            go_wp2_with fail
            refine (fEnd_any S w.heap.size _ z1 hF1).mono ?_
            rintro e z3 ⟨rfl, hB3⟩
            have hA3 := hA1.old hB3
            have hF3 := hF1.old hB3
            have belz3 : Below w.heap.size w z3 := below_step belz1 belz1.size hB3
            clear hA1 hF1 hB3 belz1
            go_wp2_with fail
            go_roundw
            case rel => exact ⟨⟨k + 1, by omega, by go_num, _, HSLf.out, hA3, hF3⟩, belz3⟩
            case measure => simp [intOf]; omega
         by_cases k4 : x.kind = 4
         ·
          rw [k4] at H0
          clear k0 k1 k2 k3 k4
          by_cases hms : 0 ≤ x.most
          ·
            have hdm : decide ((0 : Int) ≤ x.most) = true := decide_eq_true hms
            go_wp2_with (first
              | ((with_reducible refine at_slot 28 ?_); (refine arm_indexN (o := ⟨some 28, _, _, _, _, _⟩) rfl _ _ _ rfl 33 36 (by kernel_rfl) (by kernel_rfl) g o _ _ rfl .i64 k rfl hlt ?_))
              | ((with_reducible refine at_slot 29 ?_); (refine arm_load (o := ⟨some 29, _, _, _, _, _⟩) rfl _ _ rfl g (o + k * 36) rfl tc hrw (by rw [HTL.out]; exact sz_thing) ?_))
              | ((with_reducible refine at_slot 8 ?_); (refine arm_alloc (o := ⟨some 8, _, _, _, _, _⟩) rfl _ rfl zcells z_thing ?_); intro X w4 hXe hR4 hN4)
              | ((with_reducible refine arm_store (o := ⟨none, _, _, _, _, _⟩) rfl _ _ _ rfl X 0 rfl tc rfl _ _ hR4 (by rw [HTL.out, zcells_len]; omega) HT1.out (by rw [HTL.out]; exact sz_thing) ?_); intro w5 hR5 hO5 hS5; have hX5 := hR5.congr (lay_all _ _ (by rw [HTL.out, zcells_len])); have c0 := hX5.cell H0.out; have c35 := hX5.cell H35.out))
            have eX := hXe.out
            have bel5 : Below wr.heap.size wr w5 := below_only hN4.below hO5 (by omega) hN4.below.size
            have bel05 : Below w.heap.size w w5 := below_step hbel hbel.size bel5
            have hA5 := hA.old bel5
            have hF5 := hF.old bel5
            have HXn : Hid (X ≠ R ∧ X ≠ S) := Lib.hid ⟨by have := hA.row_lt; omega, by have := hF.row_lt; omega⟩
            clear eX hXe hR4 hN4 hR5 hO5 hS5 hrw hA hF hbel bel5 c0 c35 hdm
            have bz : Below w5.heap.size w5 w5.drew := (Below.refl _ _).drew
            have hXz : Row w5.drew X 33 tc := hX5
            have hAz := hA5.old bz
            have hFz := hF5.old bz
            have belz : Below w.heap.size w w5.drew := below_step bel05 bel05.size bz
            clear hX5 hA5 hF5 bel05 bz
            refine wp_region_held (S := fun w' => Row w' X 33 tc) (by kernel_rfl) ?_
            change wpAnyH _ _ _ _ _ _ _ _ w5.drew
            generalize w5.drew = wz at hXz hAz hFz belz ⊢
            refine h_take 0 (.pointer (some ⟨R, 0, none⟩)) rfl 67 rfl (by kernel_rfl) (by kernel_rfl) (by kernel_rfl) (by kernel_rfl) (fun _ _ _ h => h) (fun w' _ => by kernel_rfl) hXz ?_
            simp only [Act.put, List.setIfInBounds_toArray, List.set_cons_zero, List.set_cons_succ]
            refine h_take 1 (.pointer (some ⟨X, 35, none⟩)) rfl 68 rfl (by kernel_rfl) (by kernel_rfl) (by kernel_rfl) (by kernel_rfl) (fun _ _ _ h => h) (fun w' _ => by kernel_rfl) hXz ?_
            simp only [Act.put, List.setIfInBounds_toArray, List.set_cons_zero, List.set_cons_succ]
            refine h_take 2 (.int .i64 x.most) rfl 69 rfl (by kernel_rfl) (by kernel_rfl) (by kernel_rfl) (by kernel_rfl) (fun _ _ _ h => h) (fun w' hC => run_op_load1 _ _ rfl (.int .i64) (by kernel_rfl) rfl _ rfl _ (hC.cell H35.out)) hXz ?_
            simp only [Act.put, List.setIfInBounds_toArray, List.set_cons_zero, List.set_cons_succ]
            refine h_take 4 (.pointer (some ⟨S, 0, none⟩)) rfl 71 rfl (by kernel_rfl) (by kernel_rfl) (by kernel_rfl) (by kernel_rfl) (fun _ _ _ h => h) (fun w' _ => by kernel_rfl) hXz ?_
            simp only [Act.put, List.setIfInBounds_toArray, List.set_cons_zero, List.set_cons_succ]
            refine h_take 5 (.pointer (some ⟨X, 35, none⟩)) rfl 72 rfl (by kernel_rfl) (by kernel_rfl) (by kernel_rfl) (by kernel_rfl) (fun _ _ _ h => h) (fun w' _ => by kernel_rfl) hXz ?_
            simp only [Act.put, List.setIfInBounds_toArray, List.set_cons_zero, List.set_cons_succ]
            refine h_take 6 (.int .i64 x.most) rfl 73 rfl (by kernel_rfl) (by kernel_rfl) (by kernel_rfl) (by kernel_rfl) (fun _ _ _ h => h) (fun w' hC => run_op_load1 _ _ rfl (.int .i64) (by kernel_rfl) rfl _ rfl _ (hC.cell H35.out)) hXz ?_
            simp only [Act.put, List.setIfInBounds_toArray, List.set_cons_zero, List.set_cons_succ]
            refine h_one (i := 3) (by kernel_rfl) (o_call rfl 70 rfl (by kernel_rfl) (run_op_call 21 _ _ rfl #[.pointer (some ⟨R, 0, none⟩), .int .i64 x.most] (by simp only [List.map_toArray, List.map_cons, List.map_nil]; rfl) Try.func21 (by kernel_rfl) (by kernel_rfl) wz) (rText_any x.most R d s wz hAz (by have := HSL.out; omega)) ?_)
            rintro e y1 ⟨⟨q1, c1, rfl, hrd1⟩, hA1, hO1⟩
            have hX1 := hXz.only hO1 HXn.out.1
            have hF1 := hFz.keepR hAz hO1 (Ne.symm HRS.out)
            refine ⟨_, rfl, hX1, ?_⟩
            simp only [Act.put, List.setIfInBounds_toArray, List.set_cons_zero, List.set_cons_succ]
            refine h_one (i := 7) (by kernel_rfl) (o_call rfl 74 rfl (by kernel_rfl) (run_op_call 22 _ _ rfl #[.pointer (some ⟨S, 0, none⟩), .int .i64 x.most] (by simp only [List.map_toArray, List.map_cons, List.map_nil]; rfl) Try.func22 (by kernel_rfl) (by kernel_rfl) y1) (fText_any x.most S w.heap.size s y1 hF1 hms) ?_)
            rintro e y2 ⟨⟨q2, c2, rfl, hrd2⟩, hF2, hO2⟩
            have hX2 := hX1.only hO2 HXn.out.2
            have hA2 := hA1.keepF hF1 hO2 HRS.out
            have hrd12 := hF1.keep_rd hO2 hrd1
            refine ⟨_, rfl, hX2, ?_⟩
            simp only [Act.put, List.setIfInBounds_toArray, List.set_cons_zero, List.set_cons_succ]
            have htl := textR_left x.most s
            refine h_one (i := 8) (by kernel_rfl) (o_call rfl 75 rfl (by kernel_rfl) (run_op_call 12 _ _ rfl #[.slice q1 (textR x.most s).1.length c1, .slice q2 (textR x.most s).1.length c2] (by simp only [List.map_toArray, List.map_cons, List.map_nil]; rfl) Try.func12 (by kernel_rfl) (by kernel_rfl) y2) (same_any _ _ q1 q2 c1 c2 y2 hrd12 hrd2 (by have := HSL.out; omega) (by have := HSL.out; omega)) ?_)
            rw [decide_eq_true (rfl : (textR x.most s).1 = (textR x.most s).1)]
            rintro e y3 ⟨rfl, hB3⟩
            have hX3 := hX2.old hB3
            refine ⟨_, rfl, hX3, ?_⟩
            simp only [Act.put, List.setIfInBounds_toArray, List.set_cons_zero, List.set_cons_succ]
            refine h_take 9 (.bool true) rfl 9 rfl (by kernel_rfl) (by kernel_rfl) (by kernel_rfl) (by kernel_rfl) (fun _ _ _ h => h) (fun w' _ => by kernel_rfl) hX3 ?_
            simp only [Act.put, List.setIfInBounds_toArray, List.set_cons_zero, List.set_cons_succ]
            refine wpAnyH_done (by kernel_rfl) ?_ _
            have hAf := hA2.old hB3
            have hFf := hF2.old hB3
            have belf : Below w.heap.size w y3 := below_step (below_only (below_only belz hO1 lR belz.size) hO2 lS (Nat.le_trans belz.size hO1.size)) (Nat.le_trans belz.size (Nat.le_trans hO1.size hO2.size)) hB3
            have HSLf : Hid ((textR x.most s).2.1.length ≤ 3000) := Lib.hid (Nat.le_trans (textR_state x.most s) HSL.out)
            clear hXz hX1 hX2 hX3 hAz hFz hA1 hF1 hA2 hF2 hrd1 hrd2 hrd12 hO1 hO2 hB3 belz htl
            go_wp2_with fail
            refine (rLeft_any R d _ y3 hAf).mono ?_
            rintro e z0 ⟨rfl, rfl⟩
            go_wp2_with fail
            refine (fLeft_any S w.heap.size _ y3 hFf).mono ?_
            rintro e z1 ⟨rfl, hB1⟩
            have hA1 := hAf.old hB1
            have hF1 := hFf.old hB1
            have belz1 : Below w.heap.size w z1 := below_step belf belf.size hB1
            clear hAf hFf hB1 belf
            go_wp2_with fail
            refine (rEnd_any R d _ z1 hA1).mono ?_
            rintro e z2 ⟨rfl, rfl⟩
            go_wp2_with fail
            refine (fEnd_any S w.heap.size _ z1 hF1).mono ?_
            rintro e z3 ⟨rfl, hB3⟩
            have hA3 := hA1.old hB3
            have hF3 := hF1.old hB3
            have belz3 : Below w.heap.size w z3 := below_step belz1 belz1.size hB3
            clear hA1 hF1 hB3 belz1
            go_wp2_with fail
            go_roundw
            case rel => exact ⟨⟨k + 1, by omega, by go_num, _, HSLf.out, hA3, hF3⟩, belz3⟩
            case measure => simp [intOf]; omega
          ·
            have hdm : decide ((0 : Int) ≤ x.most) = false := decide_eq_false hms
            go_wp2_with (first
              | ((with_reducible refine at_slot 28 ?_); (refine arm_indexN (o := ⟨some 28, _, _, _, _, _⟩) rfl _ _ _ rfl 33 36 (by kernel_rfl) (by kernel_rfl) g o _ _ rfl .i64 k rfl hlt ?_))
              | ((with_reducible refine at_slot 29 ?_); (refine arm_load (o := ⟨some 29, _, _, _, _, _⟩) rfl _ _ rfl g (o + k * 36) rfl tc hrw (by rw [HTL.out]; exact sz_thing) ?_))
              | ((with_reducible refine at_slot 8 ?_); (refine arm_alloc (o := ⟨some 8, _, _, _, _, _⟩) rfl _ rfl zcells z_thing ?_); intro X w4 hXe hR4 hN4)
              | ((with_reducible refine arm_store (o := ⟨none, _, _, _, _, _⟩) rfl _ _ _ rfl X 0 rfl tc rfl _ _ hR4 (by rw [HTL.out, zcells_len]; omega) HT1.out (by rw [HTL.out]; exact sz_thing) ?_); intro w5 hR5 hO5 hS5; have hX5 := hR5.congr (lay_all _ _ (by rw [HTL.out, zcells_len])); have c0 := hX5.cell H0.out; have c35 := hX5.cell H35.out))
            have eX := hXe.out
            have bel5 : Below wr.heap.size wr w5 := below_only hN4.below hO5 (by omega) hN4.below.size
            have bel05 : Below w.heap.size w w5 := below_step hbel hbel.size bel5
            have hA5 := hA.old bel5
            have hF5 := hF.old bel5
            have HXn : Hid (X ≠ R ∧ X ≠ S) := Lib.hid ⟨by have := hA.row_lt; omega, by have := hF.row_lt; omega⟩
            clear eX hXe hR4 hN4 hR5 hO5 hS5 hrw hA hF hbel bel5 c0 c35 hdm
            have hAf := hA5
            have hFf := hF5
            have belf := bel05
            have HSLf := HSL
            clear hA5 hF5 bel05 hX5
            skip
            refine (rLeft_any R d _ w5 hAf).mono ?_
            rintro e z0 ⟨rfl, rfl⟩
            go_wp2_with fail
            refine (fLeft_any S w.heap.size _ w5 hFf).mono ?_
            rintro e z1 ⟨rfl, hB1⟩
            have hA1 := hAf.old hB1
            have hF1 := hFf.old hB1
            have belz1 : Below w.heap.size w z1 := below_step belf belf.size hB1
            clear hAf hFf hB1 belf
            go_wp2_with fail
            refine (rEnd_any R d _ z1 hA1).mono ?_
            rintro e z2 ⟨rfl, rfl⟩
            go_wp2_with fail
            refine (fEnd_any S w.heap.size _ z1 hF1).mono ?_
            rintro e z3 ⟨rfl, hB3⟩
            have hA3 := hA1.old hB3
            have hF3 := hF1.old hB3
            have belz3 : Below w.heap.size w z3 := below_step belz1 belz1.size hB3
            clear hA1 hF1 hB3 belz1
            go_wp2_with fail
            go_roundw
            case rel => exact ⟨⟨k + 1, by omega, by go_num, _, HSLf.out, hA3, hF3⟩, belz3⟩
            case measure => simp [intOf]; omega
         ·
            have e0 : (x.kind == 0) = false := beq_eq_false_iff_ne.2 k0
            have e1 : (x.kind == 1) = false := beq_eq_false_iff_ne.2 k1
            have e2 : (x.kind == 2) = false := beq_eq_false_iff_ne.2 k2
            have e3 : (x.kind == 3) = false := beq_eq_false_iff_ne.2 k3
            have e4 : (x.kind == 4) = false := beq_eq_false_iff_ne.2 k4
            clear k0 k1 k2 k3 k4
            go_wp2_with (first
              | ((with_reducible refine at_slot 28 ?_); (refine arm_indexN (o := ⟨some 28, _, _, _, _, _⟩) rfl _ _ _ rfl 33 36 (by kernel_rfl) (by kernel_rfl) g o _ _ rfl .i64 k rfl hlt ?_))
              | ((with_reducible refine at_slot 29 ?_); (refine arm_load (o := ⟨some 29, _, _, _, _, _⟩) rfl _ _ rfl g (o + k * 36) rfl tc hrw (by rw [HTL.out]; exact sz_thing) ?_))
              | ((with_reducible refine at_slot 8 ?_); (refine arm_alloc (o := ⟨some 8, _, _, _, _, _⟩) rfl _ rfl zcells z_thing ?_); intro X w4 hXe hR4 hN4)
              | ((with_reducible refine arm_store (o := ⟨none, _, _, _, _, _⟩) rfl _ _ _ rfl X 0 rfl tc rfl _ _ hR4 (by rw [HTL.out, zcells_len]; omega) HT1.out (by rw [HTL.out]; exact sz_thing) ?_); intro w5 hR5 hO5 hS5; have hX5 := hR5.congr (lay_all _ _ (by rw [HTL.out, zcells_len])); have c0 := hX5.cell H0.out; have c35 := hX5.cell H35.out))
            have eX := hXe.out
            have bel5 : Below wr.heap.size wr w5 := below_only hN4.below hO5 (by omega) hN4.below.size
            have bel05 : Below w.heap.size w w5 := below_step hbel hbel.size bel5
            have hA5 := hA.old bel5
            have hF5 := hF.old bel5
            have HXn : Hid (X ≠ R ∧ X ≠ S) := Lib.hid ⟨by have := hA.row_lt; omega, by have := hF.row_lt; omega⟩
            clear eX hXe hR4 hN4 hR5 hO5 hS5 hrw hA hF hbel bel5 c0 c35
            have hAf := hA5
            have hFf := hF5
            have belf := bel05
            have HSLf := HSL
            clear hA5 hF5 bel05 hX5
            skip
            refine (rLeft_any R d _ w5 hAf).mono ?_
            rintro e z0 ⟨rfl, rfl⟩
            go_wp2_with fail
            refine (fLeft_any S w.heap.size _ w5 hFf).mono ?_
            rintro e z1 ⟨rfl, hB1⟩
            have hA1 := hAf.old hB1
            have hF1 := hFf.old hB1
            have belz1 : Below w.heap.size w z1 := below_step belf belf.size hB1
            clear hAf hFf hB1 belf
            go_wp2_with fail
            refine (rEnd_any R d _ z1 hA1).mono ?_
            rintro e z2 ⟨rfl, rfl⟩
            go_wp2_with fail
            refine (fEnd_any S w.heap.size _ z1 hF1).mono ?_
            rintro e z3 ⟨rfl, hB3⟩
            have hA3 := hA1.old hB3
            have hF3 := hF1.old hB3
            have belz3 : Below w.heap.size w z3 := below_step belz1 belz1.size hB3
            clear hA1 hF1 hB3 belz1
            go_wp2_with fail
            go_roundw
            case rel => exact ⟨⟨k + 1, by omega, by go_num, _, HSLf.out, hA3, hF3⟩, belz3⟩
            case measure => simp [intOf]; omega
       · obtain rfl : k = l.length := by omega
         go_wp2_with fail
         go_ret
         exact ⟨rfl, hbel⟩
  · have hd0 : decide ((3000 : Int) < (b.length : Int)) = true := decide_eq_true (by omega)
    go_enter Try.func4, Try.ntmps4
    go_wp2_with fail
    refine (awake_any w).mono ?_
    rintro e w1 ⟨rfl, h1⟩
    go_wp2_with fail
    go_ret
    exact ⟨rfl, h1⟩
end Go.Proofs.Yticdapgfjkhoaaa.Wi
