/-
  The contract of the document's images: all that are digested on a claim's way, in order, in a slice of slices. Over this seat's translation.
-/
import Derived.Test.YtaihhbiocolhcaaDoorPrfRef
namespace Go.Proofs.YtaihhbiocolhcaaDoor.Pf
open Go.ChangeShapes Go.WideShapes Go.ChangeAt Go.RowKit Go.Proofs.YtaihhbiocolhcaaDoor.Mem Go.Proofs.YtaihhbiocolhcaaDoor.Bt Go.Proofs.YtaihhbiocolhcaaDoor.Wi Go.Proofs.YtaihhbiocolhcaaDoor.Sha Go.Proofs.YtaihhbiocolhcaaDoor.Ac Go.Proofs.YtaihhbiocolhcaaDoor.Tr
open Go.Proofs.YtaihhbiocolhcaaDoor.Tg (bytesOf bytesOf_length bytesOf_lt bytesOf_inj Rd Rd.below Parts parts_one arm_one tagD tagD_len tagOf_any refTag_any total image image_inj image_length img_short rimg_short)
open Go.Proofs.YtaihhbiocolhcaaDoor.Ep (H32 zh zh_ok Has h_len szH zH fitH allH came_at one_app)
set_option linter.unusedVariables false
set_option linter.unusedSimpArgs false

theorem infoQ : (Tryd.prog.info? 30).map (fun i => (i.zero, i.size, i.bytes)) = some (some (.slice none 0 0), 1, 24) := by kernel_rfl
section
variable {ops : Array Oper} {rest : List Oper} {o : Oper} {a : Act} {w : World} {Q : Exit → Act → World → Prop}
/-- 'append(s, x)' of one slice of bytes. -/
theorem arm_appendQ (hgd : o.guard = none) (s x : Operand) (ho : o.op = .call { callee := .builtin .append, args := #[s, x], argTypes := #[88, 88] }) (base : Nat) (v : Value) (n : Nat) (vs : List Value)
    (hs : a.eval s = v) (hown : w.ownsRow base 30 1 v n vs) (b : Nat) (hx : a.eval x = .slice (some ⟨b, 0, none⟩) 1 1) (u : Value) (hb : Row w b 30 [u]) (h1 : u.oneCell' = true) (hn : n ≤ 1000) (hbase : base ≤ w.heap.size)
    (h : ∀ v' w', w'.ownsRow base 30 1 v' (n + 1) (vs ++ [u]) → w.grownBy w' v.ownBlock → wpList Tryd.prog ops Q rest (a.put o.dst v') w') : wpList Tryd.prog ops Q (o :: rest) a w := by
  obtain ⟨i0, hi, hz0, hz1, hz2⟩ : ∃ i0, Tryd.prog.info? 30 = some i0 ∧ i0.zero = some (.slice none 0 0) ∧ i0.size = 1 ∧ i0.bytes = 24 := by
    have h := infoQ
    cases hq : Tryd.prog.info? 30 with
    | none => rw [hq] at h; cases h
    | some i0 =>
      rw [hq] at h
      simp only [Option.map_some, Option.some.injEq, Prod.mk.injEq] at h
      exact ⟨i0, rfl, h.1, h.2.1, h.2.2⟩
  refine wpList_append_own w hgd s x 88 ho base 30 i0 (.slice none 0 0) 1 24 (by kernel_rfl) hi hz0 hz1 hz2 rfl (by decide) v n vs hs hown ⟨b, 0, none⟩ 1 1 [u] hx (by simp) (fun j y hj => ?_) (fun y hy => by rw [List.mem_singleton.1 hy]; exact h1) (by unfold maxLen; omega) (by omega) hbase ?_
  · obtain rfl : j = 0 := by
      have := (List.getElem?_eq_some_iff.1 hj).1
      simpa using this
    rw [Addr.add_mid]
    exact hb.cell hj
  · intro v' w' h2 h3 _
    exact h v' w' h2 h3
end
theorem owns_below {w w' : World} {base : Nat} {e : TypeId} {v : Value} {n : Nat} {vs : List Value} (h : w.ownsRow base e 1 v n vs) (hb : Below w.heap.size w w') : w'.ownsRow base e 1 v n vs := by
  refine ⟨h.1, ?_⟩
  rcases h.2 with h2 | ⟨g, cap', cur, hv, hg, hh, r⟩
  · exact .inl h2
  · exact .inr ⟨g, cap', cur, hv, hg, by rw [hb.block g (Array.getElem?_eq_some_iff.1 hh).1]; exact hh, r⟩
/-- What has another type stays where the slice grows. -/
theorem block_grown {w w' : World} {base : Nat} {e : TypeId} {v : Value} {n : Nat} {vs : List Value} (hv : w.ownsRow base e 1 v n vs) (hg : w.grownBy w' v.ownBlock) {b : Nat} {cs : Array Value} {t : TypeId} {fz : Nat × Nat} (h : w.heap[b]? = some (.cells cs t fz)) (ht : t ≠ e) : w'.heap[b]? = w.heap[b]? := by
  refine hg.block b (Array.getElem?_eq_some_iff.1 h).1 (fun he => ?_)
  rcases hv.2 with ⟨rfl, _⟩ | ⟨g, cap', cur, rfl, _, hh, _⟩
  · cases he
  · obtain rfl : b = g := Option.some.inj he
    rw [h] at hh
    simp only [Option.some.injEq, Obj.cells.injEq] at hh
    exact ht hh.2.1
theorem row_grown {w w' : World} {base : Nat} {e : TypeId} {v : Value} {n : Nat} {vs : List Value} (hv : w.ownsRow base e 1 v n vs) (hg : w.grownBy w' v.ownBlock) {b : Nat} {cs : List Value} {t : TypeId} (h : Row w b t cs) (ht : t ≠ e) : Row w' b t cs := h.of_block (block_grown hv hg h ht)
theorem own_grown {w w' : World} {base : Nat} {e : TypeId} {v : Value} {n : Nat} {vs : List Value} (hv : w.ownsRow base e 1 v n vs) (hg : w.grownBy w' v.ownBlock) {base' cap : Nat} {p : Option Addr} {bs : List Nat} (h : Own w base' p cap bs) (ht : 5 ≠ e) : Own w' base' p cap bs := by
  refine ⟨h.own.1, ?_⟩
  rcases h.own.2 with h2 | ⟨g, cap', cur, hvv, hgg, hh, r⟩
  · exact .inl h2
  · exact .inr ⟨g, cap', cur, hvv, hgg, by rw [block_grown hv hg hh ht]; exact hh, r⟩
theorem bel_grown {w0 w w' : World} {base : Nat} {e : TypeId} {v : Value} {n : Nat} {vs : List Value} (hb : Below base w0 w) (hs : base ≤ w.heap.size) (hv : w.ownsRow base e 1 v n vs) (hg : w.grownBy w' v.ownBlock) : Below base w0 w' :=
  hb.trans ⟨hg.os, hg.tape, hg.output, hg.size, fun k hk => hg.block k (by omega) (fun he => by
    rcases hv.2 with ⟨rfl, _⟩ | ⟨g, cap', cur, rfl, hgb, hh, _⟩
    · cases he
    · obtain rfl : k = g := Option.some.inj he
      omega)⟩
theorem _root_.Go.Proofs.YtaihhbiocolhcaaDoor.Bt.Own.base_ {w : World} {b b' cap : Nat} {p : Option Addr} {bs : List Nat} (h : Own w b' p cap bs) (hb : b ≤ b') : Own w b p cap bs := by
  refine ⟨h.own.1, ?_⟩
  rcases h.own.2 with h2 | ⟨g, cap', cur, hv, hg, r⟩
  · exact .inl h2
  · exact .inr ⟨g, cap', cur, hv, Nat.le_trans hb hg, r⟩
/-- So many images lie in a slice. -/
structure ElAt (w : World) (base : Nat) (vs : List Value) (p : Nat) (L : List (List Nat)) (a : Acct) (n : Nat) : Prop where
  len : vs.length = n
  at_ : ∀ i, i < n → ∃ q c, vs[i]? = some (.slice q (imgK p L a i).length c) ∧ Own w base q c (imgK p L a i)
theorem ElAt.below {w w' : World} {base : Nat} {vs : List Value} {p : Nat} {L : List (List Nat)} {a : Acct} {n : Nat} (h : ElAt w base vs p L a n) (hb : Below w.heap.size w w') : ElAt w' base vs p L a n :=
  ⟨h.len, fun i hi => by
    obtain ⟨q, c, h1, h2⟩ := h.at_ i hi
    exact ⟨q, c, h1, h2.below hb⟩⟩
theorem ElAt.grown {w w' : World} {base : Nat} {vs : List Value} {p : Nat} {L : List (List Nat)} {a : Acct} {n : Nat} (h : ElAt w base vs p L a n) {v : Value} {m : Nat} {us : List Value} (hv : w.ownsRow base 30 1 v m us) (hg : w.grownBy w' v.ownBlock) : ElAt w' base vs p L a n :=
  ⟨h.len, fun i hi => by
    obtain ⟨q, c, h1, h2⟩ := h.at_ i hi
    exact ⟨q, c, h1, own_grown hv hg h2 (by decide)⟩⟩
theorem ElAt.snoc {w : World} {base : Nat} {vs : List Value} {p : Nat} {L : List (List Nat)} {a : Acct} {n : Nat} (h : ElAt w base vs p L a n) {q : Option Addr} {c : Nat} (hO : Own w base q c (imgK p L a n)) : ElAt w base (vs ++ [.slice q (imgK p L a n).length c]) p L a (n + 1) :=
  ⟨by rw [List.length_append, h.len]; rfl, fun i hi => by
    rcases Nat.lt_or_ge i n with g | g
    · obtain ⟨q', c', h1, h2⟩ := h.at_ i g
      exact ⟨q', c', by rw [List.getElem?_append_left (by rw [h.len]; exact g)]; exact h1, h2⟩
    · obtain rfl : i = n := by omega
      exact ⟨q, c, by rw [← h.len, List.getElem?_concat_length], hO⟩⟩
theorem imgK_lt {p : Nat} {L : List (List Nat)} {a : Acct} (h4 : P4 L) (hr : NRt a.nm) : ∀ k, k ≤ 4 → AllLt 256 (imgK p L a k)
  | 0, _ => imgA_lt (by have := hr.2.1; omega)
  | k + 1, hk => by
    rw [imgK_succ]
    exact imgN_lt (by omega) (lft_ok (lead_ok (digA_ok a) k) (h4.at (by omega))) (rgt_ok (lead_ok (digA_ok a) k) (h4.at (by omega)))
theorem imgK_len {p : Nat} {L : List (List Nat)} {a : Acct} (h4 : P4 L) (hr : NRt a.nm) : ∀ k, k ≤ 4 → (imgK p L a k).length ≤ 83
  | 0, _ => by
    rw [imgK_zero, imgA_len]
    have := hr.2.1
    omega
  | k + 1, hk => by
    rw [imgK_succ, imgN_len (lft_ok (lead_ok (digA_ok a) k) (h4.at (by omega))) (rgt_ok (lead_ok (digA_ok a) k) (h4.at (by omega)))]
    exact Nat.le_refl _
/-- All images of a claim. -/
def imgL (p : Nat) (L : List (List Nat)) (a : Acct) : List (List Nat) := [imgK p L a 0, imgK p L a 1, imgK p L a 2, imgK p L a 3, imgK p L a 4]
theorem imgL_get (p : Nat) (L : List (List Nat)) (a : Acct) {i : Nat} (h : i < 5) : (imgL p L a).getD i [] = imgK p L a i := by
  obtain rfl | rfl | rfl | rfl | rfl : i = 0 ∨ i = 1 ∨ i = 2 ∨ i = 3 ∨ i = 4 := by omega
  all_goals rfl
structure ImsPost (w : World) (p : Nat) (L : List (List Nat)) (a : Acct) (e : Ending) (w' : World) : Prop where
  ex : ∃ P cap, e = .returned (.slice P 5 cap) ∧ Parts w' P (imgL p L a)
  bel : Below w.heap.size w w'
theorem parts_own {w : World} {base : Nat} {v : Value} {vs : List Value} {p : Nat} {L : List (List Nat)} {a : Acct} (hv : w.ownsRow base 30 1 v 5 vs) (he : ElAt w base vs p L a 5) (h4 : P4 L) (hr : NRt a.nm) : ∃ P cap, v = .slice P 5 cap ∧ Parts w P (imgL p L a) := by
  rcases hv.2 with ⟨_, h0⟩ | ⟨g, cap, cur, rfl, _, hh, _, _, _, ht⟩
  · cases h0
  · refine ⟨_, _, rfl, ⟨fun _ => ⟨g, 0, rfl, (Array.getElem?_eq_some_iff.1 hh).1, fun i hi => ?_⟩⟩⟩
    have hi5 : i < 5 := hi
    rw [imgL_get p L a hi5]
    obtain ⟨q, c, h1, h2⟩ := he.at_ i hi5
    refine ⟨q, c, ?_, h2.came (imgK_lt h4 hr i (by omega))⟩
    rw [← ht, List.getElem?_take_of_lt (by omega)] at h1
    simp only [World.cell?, hh, Nat.zero_add]
    simpa using h1
structure ImRel16 (w : World) (C q : Nat) (L : List (List Nat)) (a : Acct) (i x v : Value) (wr : World) : Prop where
  ex : ∃ k qx cx vs, k ≤ 4 ∧ i = .int .i64 ((k : Nat) : Int) ∧ x = .slice qx (imgK q L a k).length cx ∧ Own wr w.heap.size qx cx (imgK q L a k) ∧ wr.ownsRow w.heap.size 30 1 v (k + 1) vs ∧ ElAt wr w.heap.size vs q L a (k + 1)
  rc : Row wr C 65 (clc a L)
  bel : Below w.heap.size w wr
set_option maxHeartbeats 4000000 in
set_option maxRecDepth 100000 in
theorem images_any (q : Nat) (a : Acct) (L : List (List Nat)) (w : World) (hq : q < 16) (ka : a.Ok) (hr : NRt a.nm) (h4 : P4 L) (hk : w.rangeAt 0 0 (u32s ks)) :
    Calls Tryd.prog 41 #[.int .i64 (q : Int), .agg (clc a L).toArray] w (ImsPost w q L a) := by
  have hk1 : 0 < w.heap.size := range_lt hk (by simp [u32s, ks])
  have HKW : Hid (∀ w', Below w.heap.size w w' → w'.rangeAt 0 0 (u32s ks)) := Lib.hid fun w' hb => range_block hk (hb.block _ hk1)
  have KA := Lib.hid (sz_racc a)
  have HQ := Lib.hid hq; have H4 := Lib.hid h4; have HR := Lib.hid hr
  have HB : Hid (ansB a = accB a) := Lib.hid (if_pos hr); have HE : Hid (ansE a = 0) := Lib.hid (if_pos hr)
  have CB := Lib.hid (fun w0 => rbytes_any a w0 ka)
  have HLB := Lib.hid (accB_lt (a := a) (by have := hr.2.1; omega))
  have CI := Lib.hid (fun P w0 (hp : Parts w0 P [accB a]) => Tg.rimg_short nameA [accB a] P 1 w0 (by decide) (by simp) (by simp [total, accB_len]; have := hr.2.1; omega) hp)
  have HI : Hid (image (bytesOf nameA) [accB a] = imgK q L a 0) := Lib.hid rfl
  clear hk hk1 ka hr h4 hq
  obtain ⟨b0, hb0⟩ : ∃ b, b = imgK q L a 0 := ⟨_, rfl⟩
  have HB0 := Lib.hid hb0
  rw [← hb0] at HI
  clear hb0
  go_enter Tryd.func41, Tryd.ntmps41
  go_wp2_with (first
    | ((with_reducible refine at_slot 3 ?_); (refine arm_box (o := ⟨some 3, _, _, _, _, _⟩) rfl _ _ rfl (clc a L) rfl ?_); intro C v1 Ce hv1 nv1; try simp only [Act.put, List.setIfInBounds_toArray, List.set_cons_zero, List.set_cons_succ])
    | ((with_reducible refine at_slot 15 ?_); (refine pause ?_); try simp only [Act.put, List.setIfInBounds_toArray, List.set_cons_zero, List.set_cons_succ]))
  have hbv1 := nv1.below
  have rrv1 : Row v1 C 65 (clc a L) := hv1
  have geC : w.heap.size ≤ C := by have := Ce.out; omega
  clear hv1 nv1 Ce
  have bel_2 : Below w.heap.size w v1 := hbv1
  clear hbv1
  refine go_on ?_
  go_wp2_with (first
    | ((with_reducible refine at_slot 15 ?_); (refine arm_load (o := ⟨some 15, _, _, _, _, _⟩) rfl _ _ rfl C 0 rfl (acs a) ((c_a a L).range rrv1) KA.out ?_); try simp only [Act.put, List.setIfInBounds_toArray, List.set_cons_zero, List.set_cons_succ]))
  refine (CB.out _).mono ?_
  rintro e y3 ⟨⟨qb, cb, rfl, hO⟩, hB⟩
  have C_4 : Row y3 C 65 (clc a L) := rrv1.old hB
  have bel_4 : Below w.heap.size w y3 := below_step bel_2 bel_2.size hB
  clear rrv1 bel_2 hB
  rw [HB.out] at hO ⊢
  have hC := hO.came HLB.out
  clear hO
  generalize hn : (accB a).length = n
  go_wp2_with (first
    | ((with_reducible refine at_slot 21 ?_); (refine arm_one (o := ⟨some 21, _, _, _, _, _⟩) rfl _ rfl qb n cb rfl ?_); intro Z vz Ze hZ nZ; try simp only [Act.put, List.setIfInBounds_toArray, List.set_cons_zero, List.set_cons_succ]))
  subst hn
  have hbz := nZ.below
  have hC2 := hC.below hbz
  clear nZ Ze hC
  have C_5 : Row vz C 65 (clc a L) := C_4.old hbz
  have bel_5 : Below w.heap.size w vz := below_step bel_4 bel_4.size hbz
  clear C_4 bel_4
  clear hbz
  have CT := CI.out _ _ (parts_one hZ hC2)
  have sz0 := bel_5.size
  refine (CT).mono ?_
  rintro e y6 ⟨⟨qx, cx, rfl, hO⟩, hB⟩
  have C_7 : Row y6 C 65 (clc a L) := C_5.old hB
  have bel_7 : Below w.heap.size w y6 := below_step bel_5 bel_5.size hB
  clear C_5 bel_5 hB
  rw [HI.out] at hO ⊢
  have hO1 := hO.base_ sz0
  clear hO sz0 CT hZ hC2
  generalize hn : b0.length = n
  go_wp2_with (first
    | ((with_reducible refine at_slot 26 ?_); (refine arm_one (o := ⟨some 26, _, _, _, _, _⟩) rfl _ rfl qx n cx rfl ?_); intro Z2 vz2 Ze2 hZ2 nZ2; try simp only [Act.put, List.setIfInBounds_toArray, List.set_cons_zero, List.set_cons_succ]))
  try simp only [Act.put]
  subst hn
  have hbz := nZ2.below
  have gz : w.heap.size ≤ Z2 := by have := Ze2.out; have := bel_7.size; omega
  clear nZ2 Ze2
  have C_8 : Row vz2 C 65 (clc a L) := C_7.old hbz
  have O_8 : Own vz2 w.heap.size qx cx b0 := hO1.below hbz
  have bel_8 : Below w.heap.size w vz2 := below_step bel_7 bel_7.size hbz
  clear C_7 hO1 bel_7
  clear hbz
  have hV0 : vz2.ownsRow w.heap.size 30 1 (.slice (some ⟨Z2, 0, none⟩) 1 1) 1 [.slice qx b0.length cx] := ⟨rfl, .inr ⟨Z2, 1, #[.slice qx b0.length cx], rfl, gz, hZ2, Nat.le_refl _, by unfold maxLen; omega, rfl, rfl⟩⟩
  have h0 : ImRel16 w C q L a (.int .i64 0) (.slice qx b0.length cx) (.slice (some ⟨Z2, 0, none⟩) 1 1) vz2 := ⟨⟨0, qx, cx, _, by omega, rfl, by rw [HB0.out], HB0.out ▸ O_8, hV0, ⟨rfl, fun i hi => by
    obtain rfl : i = 0 := by omega
    exact ⟨qx, cx, by rw [HB0.out]; rfl, HB0.out ▸ O_8⟩⟩⟩, C_8, bel_8⟩
  have gC0 := geC
  clear hV0 hZ2 gz O_8 C_8 bel_8 CB CI HI
  go_loopw [10, 7, 9] (fun i x v wr => ImRel16 w C q L a i x v wr) (fun i _ _ _ => 4 - (intOf i).toNat)
  case atStart => exact h0
  case round =>
    clear h0
    obtain ⟨⟨k, qx, cx, vs, hk, rfl, rfl, hO, hV, hE⟩, hC, bel⟩ := hrel
    by_cases hlt : k < 4
    · have ik : (k : Int) < 4 := by omega
      have HLT := Lib.hid hlt
      obtain ⟨bk, hbk⟩ : ∃ b, b = imgK q L a k := ⟨_, rfl⟩
      obtain ⟨dk, hdk⟩ : ∃ d, d = leadK q L (digA a) k := ⟨_, rfl⟩
      obtain ⟨xk, hxk⟩ : ∃ d, d = L.getD k [] := ⟨_, rfl⟩
      obtain ⟨bn, hbn⟩ : ∃ b, b = imgK q L a (k + 1) := ⟨_, rfl⟩
      have HDG : Hid (digest bk = dk) := Lib.hid (by rw [hbk, hdk, img_digest])
      have KD : Hid (H32 dk) := Lib.hid (hdk ▸ lead_ok (digA_ok a) k)
      have KX : Hid (H32 xk) := Lib.hid (hxk ▸ H4.out.at hlt)
      have HLK : Hid (AllLt 256 bk) := Lib.hid (hbk ▸ imgK_lt H4.out HR.out k (by omega))
      have HLL : Hid (bk.length ≤ 900000) := Lib.hid (hbk ▸ Nat.le_trans (imgK_len H4.out HR.out k (by omega)) (by omega))
      have HPX : Hid (Has (clc a L) (3 + 32 * k) (u8s xk)) := Lib.hid (hxk ▸ c_d a H4.out hlt)
      have CBT := Lib.hid (fun w0 => bit_any q k w0 HQ.out (by omega))
      have HW : Hid (IntKind.i64.wrap ((k : Int) + 1) = ((k + 1 : Nat) : Int)) := Lib.hid (by rw [IntKind.wrap_i64]; omega)
      have HW8 : Hid (IntKind.u8.wrap ((k + 1 : Nat) : Int) = ((k + 1 : Nat) : Int)) := Lib.hid (by rw [IntKind.wrap_u8]; omega)
      have HK8 : Hid (k + 1 < 256) := Lib.hid (by omega)
      have HNX : Hid (bn = imgN (k + 1) (lft q k dk xk) (rgt q k dk xk)) := Lib.hid (by rw [hbn, hdk, hxk]; exact imgK_succ q L a k)
      have COF := Lib.hid (fun p c w0 (hc : Came w0 p c bk) h => refOf_any bk p c w0 HLK.out HLL.out hc.cap_ hc.nil_ hc.at_ h)
      rw [HDG.out] at COF
      have HBN := Lib.hid hbn
      rw [← hbk] at hO
      have HV1 : Hid (vs.length = k + 1) := Lib.hid hE.len
      rw [← hbk]
      clear hdk hxk hbn hbk
      go_wp2_with fail
      refine (COF.out _ _ _ (hO.came HLK.out) (HKW.out _ bel)).mono ?_
      rintro e y201 ⟨rfl, hB⟩
      have C_202 : Row y201 C 65 (clc a L) := hC.old hB
      have O_202 : Own y201 w.heap.size qx cx bk := hO.below hB
      have V_202 : y201.ownsRow w.heap.size 30 1 u9 (k + 1) vs := owns_below hV hB
      have E_202 : ElAt y201 w.heap.size vs q L a (k + 1) := hE.below hB
      have bel_202 : Below w.heap.size w y201 := below_step bel bel.size hB
      clear hC hO hV hE bel hB
      go_wp2_with (first
        | ((with_reducible refine at_slot 11 ?_); (refine arm_alloc (o := ⟨some 11, _, _, _, _, _⟩) rfl _ rfl (u8s zh) zA ?_); intro G v203a Ge hGa nG; try simp only [Act.put, List.setIfInBounds_toArray, List.set_cons_zero, List.set_cons_succ])
        | ((with_reducible refine arm_store (o := ⟨none, _, _, _, _, _⟩) rfl _ _ _ rfl G 0 rfl (u8s dk) rfl _ _ hGa (fitH KD.out) (u8s_one _) (szA KD.out) ?_); intro v203 hGb oG sG; try simp only [Act.put, List.setIfInBounds_toArray, List.set_cons_zero, List.set_cons_succ]))
      have lG : y201.heap.size ≤ G := by have := Ge.out; omega
      have bG : Below y201.heap.size y201 v203 := below_only nG.below oG lG nG.below.size
      have rrG : Row v203 G 22 (u8s dk) := hGb.congr (allH KD.out)
      have geG : w.heap.size ≤ G := Nat.le_trans bel_202.size lG
      clear hGa hGb nG oG sG Ge lG
      have C_204 : Row v203 C 65 (clc a L) := C_202.old bG
      have O_204 : Own v203 w.heap.size qx cx bk := O_202.below bG
      have V_204 : v203.ownsRow w.heap.size 30 1 u9 (k + 1) vs := owns_below V_202 bG
      have E_204 : ElAt v203 w.heap.size vs q L a (k + 1) := E_202.below bG
      have bel_204 : Below w.heap.size w v203 := below_step bel_202 bel_202.size bG
      clear C_202 O_202 V_202 E_202 bel_202 bG
      refine wp_region_held (S := fun w' => True) (by kernel_rfl) ?_
      change wpAnyH _ _ _ _ _ _ _ _ v203.drew
      have hd205 : Below v203.heap.size v203 v203.drew := (Below.refl _ _).drew
      have C_206 : Row v203.drew C 65 (clc a L) := C_204.old hd205
      have O_206 : Own v203.drew w.heap.size qx cx bk := O_204.below hd205
      have V_206 : v203.drew.ownsRow w.heap.size 30 1 u9 (k + 1) vs := owns_below V_204 hd205
      have E_206 : ElAt v203.drew w.heap.size vs q L a (k + 1) := E_204.below hd205
      have G_206 : Row v203.drew G 22 (u8s dk) := rrG.old hd205
      have bel_206 : Below w.heap.size w v203.drew := below_step bel_204 bel_204.size hd205
      clear C_204 O_204 V_204 E_204 rrG bel_204 hd205
      generalize v203.drew = yz205 at C_206 O_206 V_206 E_206 G_206 bel_206 ⊢
      refine h_take 0 (.int .i64 (k : Int)) rfl 33 rfl (by kernel_rfl) (by kernel_rfl) (by kernel_rfl) (by kernel_rfl) (fun _ _ _ h => h) (fun w' _ => by kernel_rfl) trivial ?_
      simp only [Act.put, List.setIfInBounds_toArray, List.set_cons_zero, List.set_cons_succ]
      refine h_take 1 (.int .i64 ((k + 1 : Nat) : Int)) rfl 34 rfl (by kernel_rfl) (by kernel_rfl) (by kernel_rfl) (by kernel_rfl) (fun _ _ _ h => h) (fun w' _ => run_op_addK _ _ _ _ rfl _ _ _ rfl rfl HW.out w') trivial ?_
      simp only [Act.put, List.setIfInBounds_toArray, List.set_cons_zero, List.set_cons_succ]
      refine h_take 2 (.int .u8 ((k + 1 : Nat) : Int)) rfl 35 rfl (by kernel_rfl) (by kernel_rfl) (by kernel_rfl) (by kernel_rfl) (fun _ _ _ h => h) (fun w' _ => run_op_conv8 _ rfl _ _ rfl HW8.out w') trivial ?_
      simp only [Act.put, List.setIfInBounds_toArray, List.set_cons_zero, List.set_cons_succ]
      refine h_take 4 (.slice (some ⟨G, 0, none⟩) 32 32) rfl 37 rfl (by kernel_rfl) (by kernel_rfl) (by kernel_rfl) (by kernel_rfl) (fun _ _ _ h => h) (fun w' _ => run_op_sliceAll _ _ rfl 32 5 (by kernel_rfl) (by kernel_rfl) G (0) rfl (by omega) w') trivial ?_
      simp only [Act.put, List.setIfInBounds_toArray, List.set_cons_zero, List.set_cons_succ]
      refine h_take 5 (.int .i64 (k : Int)) rfl 38 rfl (by kernel_rfl) (by kernel_rfl) (by kernel_rfl) (by kernel_rfl) (fun _ _ _ h => h) (fun w' _ => by kernel_rfl) trivial ?_
      simp only [Act.put, List.setIfInBounds_toArray, List.set_cons_zero, List.set_cons_succ]
      refine h_take 6 (.pointer (some ⟨C, 3, none⟩)) rfl 39 rfl (by kernel_rfl) (by kernel_rfl) (by kernel_rfl) (by kernel_rfl) (fun _ _ _ h => h) (fun w' _ => by kernel_rfl) trivial ?_
      simp only [Act.put, List.setIfInBounds_toArray, List.set_cons_zero, List.set_cons_succ]
      refine h_take 7 (.pointer (some ⟨C, 3 + 32 * k, none⟩)) rfl 40 rfl (by kernel_rfl) (by kernel_rfl) (by kernel_rfl) (by kernel_rfl) (fun _ _ _ h => h) (fun w' _ => run_op_arr _ _ _ rfl 4 23 32 (by kernel_rfl) (by kernel_rfl) C 3 rfl .i64 _ rfl k rfl HLT.out (3 + 32 * k) (by omega) w') trivial ?_
      simp only [Act.put, List.setIfInBounds_toArray, List.set_cons_zero, List.set_cons_succ]
      refine h_take 8 (.slice (some ⟨C, 3 + 32 * k, none⟩) 32 32) rfl 41 rfl (by kernel_rfl) (by kernel_rfl) (by kernel_rfl) (by kernel_rfl) (fun _ _ _ h => h) (fun w' _ => run_op_sliceAll _ _ rfl 32 5 (by kernel_rfl) (by kernel_rfl) C (3 + 32 * k) rfl (by omega) w') trivial ?_
      simp only [Act.put, List.setIfInBounds_toArray, List.set_cons_zero, List.set_cons_succ]
      refine h_one (i := 3) (by kernel_rfl) (o_value _ rfl 36 rfl (by kernel_rfl) (run_op_byte _ rfl _ rfl _) ?_)
      have hNy207 := (new_alloc yz205 (.cells #[.int .u8 ((k + 1 : Nat) : Int)] 5)).below
      have rNy207 : Row (yz205.alloc (.cells #[.int .u8 ((k + 1 : Nat) : Int)] 5)) yz205.heap.size 5 (u8s [k + 1]) := heap_alloc_new _ _
      have geQ : w.heap.size ≤ yz205.heap.size := bel_206.size
      generalize yz205.alloc (.cells #[.int .u8 ((k + 1 : Nat) : Int)] 5) = y207 at hNy207 rNy207 ⊢
      have C_208 : Row y207 C 65 (clc a L) := C_206.old hNy207
      have O_208 : Own y207 w.heap.size qx cx bk := O_206.below hNy207
      have V_208 : y207.ownsRow w.heap.size 30 1 u9 (k + 1) vs := owns_below V_206 hNy207
      have E_208 : ElAt y207 w.heap.size vs q L a (k + 1) := E_206.below hNy207
      have G_208 : Row y207 G 22 (u8s dk) := G_206.old hNy207
      have bel_208 : Below w.heap.size w y207 := below_step bel_206 bel_206.size hNy207
      clear C_206 O_206 V_206 E_206 G_206 bel_206 hNy207
      generalize yz205.heap.size = Q at rNy207 geQ ⊢
      refine ⟨trivial, ?_⟩
      simp only [Act.put, List.setIfInBounds_toArray, List.set_cons_zero, List.set_cons_succ]
      refine h_one (i := 9) (by kernel_rfl) (o_value _ rfl 42 rfl (by kernel_rfl) (run_op_three _ _ _ rfl (some ⟨Q, 0, none⟩) (some ⟨G, 0, none⟩) (some ⟨C, 3 + 32 * k, none⟩) 1 32 32 1 32 32 rfl rfl rfl _) ?_)
      have hNy209 := (new_alloc y207 (.cells #[.slice (some ⟨Q, 0, none⟩) 1 1, .slice (some ⟨G, 0, none⟩) 32 32, .slice (some ⟨C, 3 + 32 * k, none⟩) 32 32] 30)).below
      have rNy209 : Row (y207.alloc (.cells #[.slice (some ⟨Q, 0, none⟩) 1 1, .slice (some ⟨G, 0, none⟩) 32 32, .slice (some ⟨C, 3 + 32 * k, none⟩) 32 32] 30)) y207.heap.size 30 ([.slice (some ⟨Q, 0, none⟩) 1 1, .slice (some ⟨G, 0, none⟩) 32 32, .slice (some ⟨C, 3 + 32 * k, none⟩) 32 32]) := heap_alloc_new _ _
      have geZ : w.heap.size ≤ y207.heap.size := bel_208.size
      generalize y207.alloc (.cells #[.slice (some ⟨Q, 0, none⟩) 1 1, .slice (some ⟨G, 0, none⟩) 32 32, .slice (some ⟨C, 3 + 32 * k, none⟩) 32 32] 30) = y209 at hNy209 rNy209 ⊢
      have C_210 : Row y209 C 65 (clc a L) := C_208.old hNy209
      have O_210 : Own y209 w.heap.size qx cx bk := O_208.below hNy209
      have V_210 : y209.ownsRow w.heap.size 30 1 u9 (k + 1) vs := owns_below V_208 hNy209
      have E_210 : ElAt y209 w.heap.size vs q L a (k + 1) := E_208.below hNy209
      have G_210 : Row y209 G 22 (u8s dk) := G_208.old hNy209
      have Q_210 : Row y209 Q 5 (u8s [k + 1]) := rNy207.old hNy209
      have bel_210 : Below w.heap.size w y209 := below_step bel_208 bel_208.size hNy209
      clear C_208 O_208 V_208 E_208 G_208 rNy207 bel_208 hNy209
      generalize y207.heap.size = Z at rNy209 geZ ⊢
      refine ⟨trivial, ?_⟩
      simp only [Act.put, List.setIfInBounds_toArray, List.set_cons_zero, List.set_cons_succ]
      refine h_take 10 (.slice (some ⟨Z, 0, none⟩) 3 3) rfl 12 rfl (by kernel_rfl) (by kernel_rfl) (by kernel_rfl) (by kernel_rfl) (fun _ _ _ h => h) (fun w' _ => by kernel_rfl) trivial ?_
      simp only [Act.put, List.setIfInBounds_toArray, List.set_cons_zero, List.set_cons_succ]
      refine wpAnyH_done (by kernel_rfl) ?_ _
      obtain ⟨m, hm⟩ : ∃ m, m = q / 2 ^ k % 2 := ⟨_, rfl⟩
      rw [← hm] at CBT
      go_wp2_with fail
      refine (CBT.out _).mono ?_
      rintro e z211 ⟨rfl, rfl⟩
      by_cases he : m = 0
      · have HM : Hid (decide ((m : Int) = 1) = false) := Lib.hid (decide_eq_false (by omega))
        have HIM : Hid (image (bytesOf nameN) [[k + 1], dk, xk] = bn) := Lib.hid (by rw [HNX.out]; unfold imgN lft rgt; rw [if_pos (by rw [← hm]; exact he), if_pos (by rw [← hm]; exact he)])
        have CI := Lib.hid (fun P w0 (hp : Parts w0 P [[k + 1], dk, xk]) => Tg.rimg_short nameN [[k + 1], dk, xk] P 3 w0 (by decide) (by simp) (by simp [total, KD.out.len, KX.out.len]) hp)
        clear he hm HNX CBT
        go_wp2_with (first
          | ((with_reducible refine at_slot 46 ?_); (refine arm_want (.bool false) 46 rfl (by kernel_rfl) (cmp_eql _ _ .i64 (by kernel_rfl) _ _ rfl .i64 _ _ rfl rfl false HM.out _) ?_); try simp only [Act.put, List.setIfInBounds_toArray, List.set_cons_zero, List.set_cons_succ]))
        have hpt : Parts y209 (some ⟨Z, 0, none⟩) [[k + 1], dk, xk] := parts_three rNy209 (came_byte Q_210 HK8.out) (came_at ((Has.refl _).range G_210) KD.out) (came_at ((HPX.out).range C_210) KX.out) KD.out KX.out
        have CT := CI.out _ _ hpt
        clear hpt
        have sz0 := bel_210.size
        clear O_210
        refine (CT).mono ?_
        rintro e y212 ⟨⟨q2, c2, rfl, hO2⟩, hB⟩
        have C_213 : Row y212 C 65 (clc a L) := C_210.old hB
        have V_213 : y212.ownsRow w.heap.size 30 1 u9 (k + 1) vs := owns_below V_210 hB
        have E_213 : ElAt y212 w.heap.size vs q L a (k + 1) := E_210.below hB
        have G_213 : Row y212 G 22 (u8s dk) := G_210.old hB
        have Q_213 : Row y212 Q 5 (u8s [k + 1]) := Q_210.old hB
        have Z_213 : Row y212 Z 30 ([.slice (some ⟨Q, 0, none⟩) 1 1, .slice (some ⟨G, 0, none⟩) 32 32, .slice (some ⟨C, 3 + 32 * k, none⟩) 32 32]) := rNy209.old hB
        have bel_213 : Below w.heap.size w y212 := below_step bel_210 bel_210.size hB
        clear C_210 V_210 E_210 G_210 Q_210 rNy209 bel_210 hB
        rw [HIM.out] at hO2 ⊢
        have hO3 := hO2.base_ sz0
        clear hO2 sz0 CT
        generalize hn : bn.length = n2
        go_wp2_with (first
          | ((with_reducible refine at_slot 64 ?_); (refine arm_one (o := ⟨some 64, _, _, _, _, _⟩) rfl _ rfl q2 n2 c2 rfl ?_); intro Z3 vz Ze hZ nZ; try simp only [Act.put, List.setIfInBounds_toArray, List.set_cons_zero, List.set_cons_succ])
          | ((with_reducible refine at_slot 65 ?_); (refine pause ?_); try simp only [Act.put, List.setIfInBounds_toArray, List.set_cons_zero, List.set_cons_succ]))
        refine go_on ?_
        subst hn
        have hbz := nZ.below
        clear nZ Ze
        have C_214 : Row vz C 65 (clc a L) := C_213.old hbz
        have V_214 : vz.ownsRow w.heap.size 30 1 u9 (k + 1) vs := owns_below V_213 hbz
        have E_214 : ElAt vz w.heap.size vs q L a (k + 1) := E_213.below hbz
        have G_214 : Row vz G 22 (u8s dk) := G_213.old hbz
        have Q_214 : Row vz Q 5 (u8s [k + 1]) := Q_213.old hbz
        have Z_214 : Row vz Z 30 ([.slice (some ⟨Q, 0, none⟩) 1 1, .slice (some ⟨G, 0, none⟩) 32 32, .slice (some ⟨C, 3 + 32 * k, none⟩) 32 32]) := Z_213.old hbz
        have O_214 : Own vz w.heap.size q2 c2 bn := hO3.below hbz
        have bel_214 : Below w.heap.size w vz := below_step bel_213 bel_213.size hbz
        clear C_213 V_213 E_213 G_213 Q_213 Z_213 hO3 bel_213
        clear hbz
        refine arm_appendQ (o := ⟨some 65, _, _, _, _, _⟩) rfl _ _ rfl w.heap.size u9 (k + 1) vs rfl V_214 Z3 rfl (.slice q2 bn.length c2) hZ rfl (by have := HLT.out; omega) bel_214.size ?_
        intro v2 w2 hV2 hG2
        have C2 := row_grown V_214 hG2 C_214 (by decide)
        have X2 := own_grown V_214 hG2 O_214 (by decide)
        have E2 := E_214.grown V_214 hG2
        have B2 := bel_grown bel_214 bel_214.size V_214 hG2
        have X3 : Own w2 w.heap.size q2 c2 (imgK q L a (k + 1)) := HBN.out ▸ X2
        have E3 : ElAt w2 w.heap.size (vs ++ [.slice q2 bn.length c2]) q L a (k + 2) := by
          have := E2.snoc X3
          rw [← HBN.out] at this
          exact this
        clear E2 hG2 hZ X2 C_214 V_214 E_214 G_214 Q_214 Z_214 O_214 bel_214
        try simp only [Act.put]
        go_wp2_with fail
        try simp only [Act.put]
        go_roundw
        case rel => exact ⟨⟨k + 1, q2, c2, _, by omega, by go_num, by rw [← HBN.out], X3, hV2, E3⟩, C2, B2⟩
        case measure => simp [intOf]; omega
      · have HM : Hid (decide ((m : Int) = 1) = true) := Lib.hid (decide_eq_true (by omega))
        have HIM : Hid (image (bytesOf nameN) [[k + 1], xk, dk] = bn) := Lib.hid (by rw [HNX.out]; unfold imgN lft rgt; rw [if_neg (by rw [← hm]; exact he), if_neg (by rw [← hm]; exact he)])
        have CI := Lib.hid (fun P w0 (hp : Parts w0 P [[k + 1], xk, dk]) => Tg.rimg_short nameN [[k + 1], xk, dk] P 3 w0 (by decide) (by simp) (by simp [total, KX.out.len, KD.out.len]) hp)
        clear he hm HNX CBT
        go_wp2_with (first
          | ((with_reducible refine at_slot 46 ?_); (refine arm_want (.bool true) 46 rfl (by kernel_rfl) (cmp_eql _ _ .i64 (by kernel_rfl) _ _ rfl .i64 _ _ rfl rfl true HM.out _) ?_); try simp only [Act.put, List.setIfInBounds_toArray, List.set_cons_zero, List.set_cons_succ]))
        refine wp_region_held (S := fun w' => True) (by kernel_rfl) ?_
        change wpAnyH _ _ _ _ _ _ _ _ y209.drew
        have hd212 : Below y209.heap.size y209 y209.drew := (Below.refl _ _).drew
        have C_213 : Row y209.drew C 65 (clc a L) := C_210.old hd212
        have O_213 : Own y209.drew w.heap.size qx cx bk := O_210.below hd212
        have V_213 : y209.drew.ownsRow w.heap.size 30 1 u9 (k + 1) vs := owns_below V_210 hd212
        have E_213 : ElAt y209.drew w.heap.size vs q L a (k + 1) := E_210.below hd212
        have G_213 : Row y209.drew G 22 (u8s dk) := G_210.old hd212
        have Q_213 : Row y209.drew Q 5 (u8s [k + 1]) := Q_210.old hd212
        have Z_213 : Row y209.drew Z 30 ([.slice (some ⟨Q, 0, none⟩) 1 1, .slice (some ⟨G, 0, none⟩) 32 32, .slice (some ⟨C, 3 + 32 * k, none⟩) 32 32]) := rNy209.old hd212
        have bel_213 : Below w.heap.size w y209.drew := below_step bel_210 bel_210.size hd212
        clear C_210 O_210 V_210 E_210 G_210 Q_210 rNy209 bel_210 hd212
        generalize y209.drew = yz212 at C_213 O_213 V_213 E_213 G_213 Q_213 Z_213 bel_213 ⊢
        refine h_take 0 (.int .i64 (k : Int)) rfl 47 rfl (by kernel_rfl) (by kernel_rfl) (by kernel_rfl) (by kernel_rfl) (fun _ _ _ h => h) (fun w' _ => by kernel_rfl) trivial ?_
        simp only [Act.put, List.setIfInBounds_toArray, List.set_cons_zero, List.set_cons_succ]
        refine h_take 1 (.int .i64 ((k + 1 : Nat) : Int)) rfl 48 rfl (by kernel_rfl) (by kernel_rfl) (by kernel_rfl) (by kernel_rfl) (fun _ _ _ h => h) (fun w' _ => run_op_addK _ _ _ _ rfl _ _ _ rfl rfl HW.out w') trivial ?_
        simp only [Act.put, List.setIfInBounds_toArray, List.set_cons_zero, List.set_cons_succ]
        refine h_take 2 (.int .u8 ((k + 1 : Nat) : Int)) rfl 49 rfl (by kernel_rfl) (by kernel_rfl) (by kernel_rfl) (by kernel_rfl) (fun _ _ _ h => h) (fun w' _ => run_op_conv8 _ rfl _ _ rfl HW8.out w') trivial ?_
        simp only [Act.put, List.setIfInBounds_toArray, List.set_cons_zero, List.set_cons_succ]
        refine h_take 4 (.int .i64 (k : Int)) rfl 51 rfl (by kernel_rfl) (by kernel_rfl) (by kernel_rfl) (by kernel_rfl) (fun _ _ _ h => h) (fun w' _ => by kernel_rfl) trivial ?_
        simp only [Act.put, List.setIfInBounds_toArray, List.set_cons_zero, List.set_cons_succ]
        refine h_take 5 (.pointer (some ⟨C, 3, none⟩)) rfl 52 rfl (by kernel_rfl) (by kernel_rfl) (by kernel_rfl) (by kernel_rfl) (fun _ _ _ h => h) (fun w' _ => by kernel_rfl) trivial ?_
        simp only [Act.put, List.setIfInBounds_toArray, List.set_cons_zero, List.set_cons_succ]
        refine h_take 6 (.pointer (some ⟨C, 3 + 32 * k, none⟩)) rfl 53 rfl (by kernel_rfl) (by kernel_rfl) (by kernel_rfl) (by kernel_rfl) (fun _ _ _ h => h) (fun w' _ => run_op_arr _ _ _ rfl 4 23 32 (by kernel_rfl) (by kernel_rfl) C 3 rfl .i64 _ rfl k rfl HLT.out (3 + 32 * k) (by omega) w') trivial ?_
        simp only [Act.put, List.setIfInBounds_toArray, List.set_cons_zero, List.set_cons_succ]
        refine h_take 7 (.slice (some ⟨C, 3 + 32 * k, none⟩) 32 32) rfl 54 rfl (by kernel_rfl) (by kernel_rfl) (by kernel_rfl) (by kernel_rfl) (fun _ _ _ h => h) (fun w' _ => run_op_sliceAll _ _ rfl 32 5 (by kernel_rfl) (by kernel_rfl) C (3 + 32 * k) rfl (by omega) w') trivial ?_
        simp only [Act.put, List.setIfInBounds_toArray, List.set_cons_zero, List.set_cons_succ]
        refine h_take 8 (.slice (some ⟨G, 0, none⟩) 32 32) rfl 55 rfl (by kernel_rfl) (by kernel_rfl) (by kernel_rfl) (by kernel_rfl) (fun _ _ _ h => h) (fun w' _ => run_op_sliceAll _ _ rfl 32 5 (by kernel_rfl) (by kernel_rfl) G (0) rfl (by omega) w') trivial ?_
        simp only [Act.put, List.setIfInBounds_toArray, List.set_cons_zero, List.set_cons_succ]
        refine h_one (i := 3) (by kernel_rfl) (o_value _ rfl 50 rfl (by kernel_rfl) (run_op_byte _ rfl _ rfl _) ?_)
        have hNy214 := (new_alloc yz212 (.cells #[.int .u8 ((k + 1 : Nat) : Int)] 5)).below
        have rNy214 : Row (yz212.alloc (.cells #[.int .u8 ((k + 1 : Nat) : Int)] 5)) yz212.heap.size 5 (u8s [k + 1]) := heap_alloc_new _ _
        have geQ2 : w.heap.size ≤ yz212.heap.size := bel_213.size
        generalize yz212.alloc (.cells #[.int .u8 ((k + 1 : Nat) : Int)] 5) = y214 at hNy214 rNy214 ⊢
        have C_215 : Row y214 C 65 (clc a L) := C_213.old hNy214
        have O_215 : Own y214 w.heap.size qx cx bk := O_213.below hNy214
        have V_215 : y214.ownsRow w.heap.size 30 1 u9 (k + 1) vs := owns_below V_213 hNy214
        have E_215 : ElAt y214 w.heap.size vs q L a (k + 1) := E_213.below hNy214
        have G_215 : Row y214 G 22 (u8s dk) := G_213.old hNy214
        have Q_215 : Row y214 Q 5 (u8s [k + 1]) := Q_213.old hNy214
        have Z_215 : Row y214 Z 30 ([.slice (some ⟨Q, 0, none⟩) 1 1, .slice (some ⟨G, 0, none⟩) 32 32, .slice (some ⟨C, 3 + 32 * k, none⟩) 32 32]) := Z_213.old hNy214
        have bel_215 : Below w.heap.size w y214 := below_step bel_213 bel_213.size hNy214
        clear C_213 O_213 V_213 E_213 G_213 Q_213 Z_213 bel_213 hNy214
        generalize yz212.heap.size = Q2 at rNy214 geQ2 ⊢
        refine ⟨trivial, ?_⟩
        simp only [Act.put, List.setIfInBounds_toArray, List.set_cons_zero, List.set_cons_succ]
        refine h_one (i := 9) (by kernel_rfl) (o_value _ rfl 56 rfl (by kernel_rfl) (run_op_three _ _ _ rfl (some ⟨Q2, 0, none⟩) (some ⟨C, 3 + 32 * k, none⟩) (some ⟨G, 0, none⟩) 1 32 32 1 32 32 rfl rfl rfl _) ?_)
        have hNy216 := (new_alloc y214 (.cells #[.slice (some ⟨Q2, 0, none⟩) 1 1, .slice (some ⟨C, 3 + 32 * k, none⟩) 32 32, .slice (some ⟨G, 0, none⟩) 32 32] 30)).below
        have rNy216 : Row (y214.alloc (.cells #[.slice (some ⟨Q2, 0, none⟩) 1 1, .slice (some ⟨C, 3 + 32 * k, none⟩) 32 32, .slice (some ⟨G, 0, none⟩) 32 32] 30)) y214.heap.size 30 ([.slice (some ⟨Q2, 0, none⟩) 1 1, .slice (some ⟨C, 3 + 32 * k, none⟩) 32 32, .slice (some ⟨G, 0, none⟩) 32 32]) := heap_alloc_new _ _
        have geZ2 : w.heap.size ≤ y214.heap.size := bel_215.size
        generalize y214.alloc (.cells #[.slice (some ⟨Q2, 0, none⟩) 1 1, .slice (some ⟨C, 3 + 32 * k, none⟩) 32 32, .slice (some ⟨G, 0, none⟩) 32 32] 30) = y216 at hNy216 rNy216 ⊢
        have C_217 : Row y216 C 65 (clc a L) := C_215.old hNy216
        have O_217 : Own y216 w.heap.size qx cx bk := O_215.below hNy216
        have V_217 : y216.ownsRow w.heap.size 30 1 u9 (k + 1) vs := owns_below V_215 hNy216
        have E_217 : ElAt y216 w.heap.size vs q L a (k + 1) := E_215.below hNy216
        have G_217 : Row y216 G 22 (u8s dk) := G_215.old hNy216
        have Q_217 : Row y216 Q 5 (u8s [k + 1]) := Q_215.old hNy216
        have Z_217 : Row y216 Z 30 ([.slice (some ⟨Q, 0, none⟩) 1 1, .slice (some ⟨G, 0, none⟩) 32 32, .slice (some ⟨C, 3 + 32 * k, none⟩) 32 32]) := Z_215.old hNy216
        have Q2_217 : Row y216 Q2 5 (u8s [k + 1]) := rNy214.old hNy216
        have bel_217 : Below w.heap.size w y216 := below_step bel_215 bel_215.size hNy216
        clear C_215 O_215 V_215 E_215 G_215 Q_215 Z_215 rNy214 bel_215 hNy216
        generalize y214.heap.size = Z2 at rNy216 geZ2 ⊢
        refine ⟨trivial, ?_⟩
        simp only [Act.put, List.setIfInBounds_toArray, List.set_cons_zero, List.set_cons_succ]
        refine h_take 10 (.slice (some ⟨Z2, 0, none⟩) 3 3) rfl 12 rfl (by kernel_rfl) (by kernel_rfl) (by kernel_rfl) (by kernel_rfl) (fun _ _ _ h => h) (fun w' _ => by kernel_rfl) trivial ?_
        simp only [Act.put, List.setIfInBounds_toArray, List.set_cons_zero, List.set_cons_succ]
        refine wpAnyH_done (by kernel_rfl) ?_ _
        go_wp2_with fail
        have hpt : Parts y216 (some ⟨Z2, 0, none⟩) [[k + 1], xk, dk] := parts_three rNy216 (came_byte Q2_217 HK8.out) (came_at ((HPX.out).range C_217) KX.out) (came_at ((Has.refl _).range G_217) KD.out) KX.out KD.out
        have CT := CI.out _ _ hpt
        clear hpt
        have sz0 := bel_217.size
        clear O_217
        refine (CT).mono ?_
        rintro e y218 ⟨⟨q2, c2, rfl, hO2⟩, hB⟩
        have C_219 : Row y218 C 65 (clc a L) := C_217.old hB
        have V_219 : y218.ownsRow w.heap.size 30 1 u9 (k + 1) vs := owns_below V_217 hB
        have E_219 : ElAt y218 w.heap.size vs q L a (k + 1) := E_217.below hB
        have G_219 : Row y218 G 22 (u8s dk) := G_217.old hB
        have Q_219 : Row y218 Q 5 (u8s [k + 1]) := Q_217.old hB
        have Z_219 : Row y218 Z 30 ([.slice (some ⟨Q, 0, none⟩) 1 1, .slice (some ⟨G, 0, none⟩) 32 32, .slice (some ⟨C, 3 + 32 * k, none⟩) 32 32]) := Z_217.old hB
        have Q2_219 : Row y218 Q2 5 (u8s [k + 1]) := Q2_217.old hB
        have Z2_219 : Row y218 Z2 30 ([.slice (some ⟨Q2, 0, none⟩) 1 1, .slice (some ⟨C, 3 + 32 * k, none⟩) 32 32, .slice (some ⟨G, 0, none⟩) 32 32]) := rNy216.old hB
        have bel_219 : Below w.heap.size w y218 := below_step bel_217 bel_217.size hB
        clear C_217 V_217 E_217 G_217 Q_217 Z_217 Q2_217 rNy216 bel_217 hB
        rw [HIM.out] at hO2 ⊢
        have hO3 := hO2.base_ sz0
        clear hO2 sz0 CT
        generalize hn : bn.length = n2
        go_wp2_with (first
          | ((with_reducible refine at_slot 64 ?_); (refine arm_one (o := ⟨some 64, _, _, _, _, _⟩) rfl _ rfl q2 n2 c2 rfl ?_); intro Z3 vz Ze hZ nZ; try simp only [Act.put, List.setIfInBounds_toArray, List.set_cons_zero, List.set_cons_succ])
          | ((with_reducible refine at_slot 65 ?_); (refine pause ?_); try simp only [Act.put, List.setIfInBounds_toArray, List.set_cons_zero, List.set_cons_succ]))
        refine go_on ?_
        subst hn
        have hbz := nZ.below
        clear nZ Ze
        have C_220 : Row vz C 65 (clc a L) := C_219.old hbz
        have V_220 : vz.ownsRow w.heap.size 30 1 u9 (k + 1) vs := owns_below V_219 hbz
        have E_220 : ElAt vz w.heap.size vs q L a (k + 1) := E_219.below hbz
        have G_220 : Row vz G 22 (u8s dk) := G_219.old hbz
        have Q_220 : Row vz Q 5 (u8s [k + 1]) := Q_219.old hbz
        have Z_220 : Row vz Z 30 ([.slice (some ⟨Q, 0, none⟩) 1 1, .slice (some ⟨G, 0, none⟩) 32 32, .slice (some ⟨C, 3 + 32 * k, none⟩) 32 32]) := Z_219.old hbz
        have Q2_220 : Row vz Q2 5 (u8s [k + 1]) := Q2_219.old hbz
        have Z2_220 : Row vz Z2 30 ([.slice (some ⟨Q2, 0, none⟩) 1 1, .slice (some ⟨C, 3 + 32 * k, none⟩) 32 32, .slice (some ⟨G, 0, none⟩) 32 32]) := Z2_219.old hbz
        have O_220 : Own vz w.heap.size q2 c2 bn := hO3.below hbz
        have bel_220 : Below w.heap.size w vz := below_step bel_219 bel_219.size hbz
        clear C_219 V_219 E_219 G_219 Q_219 Z_219 Q2_219 Z2_219 hO3 bel_219
        clear hbz
        refine arm_appendQ (o := ⟨some 65, _, _, _, _, _⟩) rfl _ _ rfl w.heap.size u9 (k + 1) vs rfl V_220 Z3 rfl (.slice q2 bn.length c2) hZ rfl (by have := HLT.out; omega) bel_220.size ?_
        intro v2 w2 hV2 hG2
        have C2 := row_grown V_220 hG2 C_220 (by decide)
        have X2 := own_grown V_220 hG2 O_220 (by decide)
        have E2 := E_220.grown V_220 hG2
        have B2 := bel_grown bel_220 bel_220.size V_220 hG2
        have X3 : Own w2 w.heap.size q2 c2 (imgK q L a (k + 1)) := HBN.out ▸ X2
        have E3 : ElAt w2 w.heap.size (vs ++ [.slice q2 bn.length c2]) q L a (k + 2) := by
          have := E2.snoc X3
          rw [← HBN.out] at this
          exact this
        clear E2 hG2 hZ X2 C_220 V_220 E_220 G_220 Q_220 Z_220 Q2_220 Z2_220 O_220 bel_220
        try simp only [Act.put]
        go_wp2_with fail
        try simp only [Act.put]
        go_roundw
        case rel => exact ⟨⟨k + 1, q2, c2, _, by omega, by go_num, by rw [← HBN.out], X3, hV2, E3⟩, C2, B2⟩
        case measure => simp [intOf]; omega
    · obtain rfl : k = 4 := by omega
      obtain ⟨P, cap, rfl, hP⟩ := parts_own hV hE H4.out HR.out
      generalize (imgK q L a 4).length = nn
      go_wp2_with fail
      go_ret
      exact ⟨⟨P, cap, rfl, hP⟩, bel⟩
end Go.Proofs.YtaihhbiocolhcaaDoor.Pf
