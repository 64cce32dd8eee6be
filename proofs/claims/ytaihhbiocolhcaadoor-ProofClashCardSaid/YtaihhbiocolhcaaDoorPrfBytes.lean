/-
  The contracts of Bytes and Read, package proof's and the document's: a path's bytes, and the path of bytes. Over this seat's translation.
-/
import Derived.Test.YtaihhbiocolhcaaDoorPrfCheck
import Derived.Test.YtaihhbiocolhcaaDoorTagOne
namespace Go.Proofs.YtaihhbiocolhcaaDoor.Pf
open Go.ChangeShapes Go.WideShapes Go.ChangeAt Go.RowKit Go.Proofs.YtaihhbiocolhcaaDoor.Mem Go.Proofs.YtaihhbiocolhcaaDoor.Bt Go.Proofs.YtaihhbiocolhcaaDoor.Wi Go.Proofs.YtaihhbiocolhcaaDoor.Sha Go.Proofs.YtaihhbiocolhcaaDoor.Ac Go.Proofs.YtaihhbiocolhcaaDoor.Tr
open Go.Proofs.YtaihhbiocolhcaaDoor.Tg (bytesOf bytesOf_length bytesOf_lt bytesOf_inj Rd Rd.below Parts parts_one arm_one tagD tagD_len tagOf_any refTag_any total image image_inj image_length)
open Go.Proofs.YtaihhbiocolhcaaDoor.Ep (H32 zh zh_ok Has h_len szH zH fitH allH came_at one_app)
set_option linter.unusedVariables false
set_option linter.unusedSimpArgs false

/-- An element of a slice of one cell each. -/
theorem run_op_idxS {P : Program} {o : Oper} {a : Act} (t : TypeId) (x ix : Operand) (ho : o.op = .indexAddr t x ix) (e : TypeId) (hu : P.underlying t = some (.slice e)) (hse : (P.info? e).map (·.size) = some 1)
    (g off len cap : Nat) (hx : a.eval x = .slice (some ⟨g, off, none⟩) len cap) (kk : IntKind) (i : Int) (hi : a.eval ix = .int kk i) (k : Nat) (hik : i = (k : Int)) (hk : k < len) (w : World) : (execOp a.eval o).run P w = .ok (.value (.pointer (some ⟨g, off + k, none⟩))) w := by
  subst hik
  cases hq : P.info? e with
  | none => simp [hq] at hse
  | some ie =>
    have hs : ie.size = 1 := by simpa [hq] using hse
    have h3 : (⟨g, off, none⟩ : Addr).add k = ⟨g, off + k, none⟩ := Addr.add_mid g off k
    unfold execOp
    simp [ho, hx, hi, Instr.indexAt, asIntOf, run_underlying hu, sizeOf, typeInfo, hq, hs, hk, h3, Instr.sureAddr]
structure BsPost (w : World) (L : List (List Nat)) (e : Ending) (w' : World) : Prop where
  ex : ∃ p cap, e = .returned (.slice p 128 cap) ∧ Came w' p cap (pathB L)
  bel : Below w.heap.size w w'
structure PbRel (w : World) (L : List (List Nat)) (i v : Value) (wr : World) : Prop where
  ex : ∃ k p cap, k ≤ 4 ∧ i = .int .i64 ((k : Nat) : Int) ∧ v = .slice p (32 * k) cap ∧ Own wr w.heap.size p cap (pathB (L.take k))
  bel : Below w.heap.size w wr
structure RbRel (w : World) (Y Z : Nat) (L : List (List Nat)) (i v : Value) (wr : World) : Prop where
  ex : ∃ k p cap, k ≤ 4 ∧ i = .int .i64 ((k : Nat) : Int) ∧ v = .slice p (32 * k) cap ∧ Own wr Z p cap (pathB (L.take k))
  ry : Row wr Y 28 (dgC L)
  sz : Z ≤ wr.heap.size
  bel : Below w.heap.size w wr
structure RdPost (w : World) (b : List Nat) (e : Ending) (w' : World) : Prop where
  ret : e = .returned (.tuple #[.agg (dgC (rdP b)).toArray, .int .i64 (rdE b : Int)])
  bel : Below w.heap.size w w'
structure PrRel (w : World) (Y R : Nat) (b : List Nat) (i v : Value) (wr : World) : Prop where
  ex : ∃ k q c n, k ≤ 4 ∧ i = .int .i64 ((k : Nat) : Int) ∧ v = .slice q n c ∧ n = 128 - 32 * k ∧ Came w q c (b.drop (32 * k)) ∧ Row wr Y 29 (dgC (rdL b k))
  rr : Row wr R 29 (dgC z4)
  bel : Below w.heap.size w wr
/-- Bytes that are read one by one. -/
def byB (b : List Nat) (k : Nat) : List Nat := b.take k ++ List.replicate (128 - k) 0
theorem byB_zero (b : List Nat) : u8s (byB b 0) = dgC z4 := by
  rw [dgC_flat]
  rfl
theorem byB_all {b : List Nat} (h : b.length = 128) : u8s (byB b 128) = dgC (pathOf b) := by
  rw [dgC_flat, bytes_path h]
  unfold byB
  rw [List.take_of_length_le (by omega)]
  simp
theorem byB_len {b : List Nat} (h : b.length = 128) {k : Nat} (hk : k ≤ 128) : (byB b k).length = 128 := by
  unfold byB
  rw [List.length_append, List.length_take, List.length_replicate]
  omega
theorem byB_set {b : List Nat} (h : b.length = 128) {k : Nat} (hk : k < 128) : (u8s (byB b k)).set k (.int .u8 ((b.getD k 0 : Nat) : Int)) = u8s (byB b (k + 1)) := by
  apply List.ext_getElem?
  intro j
  have e1 : (byB b k).length = 128 := byB_len h (by omega)
  have e2 : (byB b (k + 1)).length = 128 := byB_len h (by omega)
  by_cases hj : j < 128
  · rw [u8s_get (by omega)]
    by_cases e : k = j
    · subst e
      rw [List.getElem?_set_self (by rw [u8s_length]; omega)]
      unfold byB
      rw [List.getD_eq_getElem?_getD, List.getD_eq_getElem?_getD, List.getElem?_append_left (by rw [List.length_take]; omega), List.getElem?_take_of_lt (by omega)]
    · rw [List.getElem?_set_ne e, u8s_get (by omega)]
      congr 3
      unfold byB
      rw [List.getD_eq_getElem?_getD, List.getD_eq_getElem?_getD]
      by_cases g : j < k
      · rw [List.getElem?_append_left (by rw [List.length_take]; omega), List.getElem?_append_left (by rw [List.length_take]; omega), List.getElem?_take_of_lt g, List.getElem?_take_of_lt (by omega)]
      · rw [List.getElem?_append_right (by rw [List.length_take]; omega), List.getElem?_append_right (by rw [List.length_take]; omega), List.getElem?_replicate, List.getElem?_replicate]
        rw [if_pos (by rw [List.length_take]; omega), if_pos (by rw [List.length_take]; omega)]
  · rw [List.getElem?_eq_none (by rw [List.length_set, u8s_length]; omega), List.getElem?_eq_none (by rw [u8s_length]; omega)]
structure RrRel (w : World) (Y R : Nat) (b : List Nat) (i : Value) (wr : World) : Prop where
  ex : ∃ k : Nat, k ≤ 128 ∧ i = .int .i64 (k : Int) ∧ Row wr Y 28 (u8s (byB b k))
  rr : Row wr R 28 (dgC z4)
  bel : Below w.heap.size w wr
theorem cell_below {w w' : World} {g o i : Nat} {b : List Nat} (h : w.rangeAt g o (u8s b)) (hi : i < b.length) (hb : Below w.heap.size w w') : w'.cell? ⟨g, o + i, none⟩ = some (.int .u8 ((b.getD i 0 : Nat) : Int)) :=
  range_block h (hb.block g (range_lt h (fun e => by have := congrArg List.length e; rw [u8s_length] at this; simp at this; rw [this] at hi; simp at hi))) i _ (u8s_get hi)
set_option maxHeartbeats 4000000 in
set_option maxRecDepth 100000 in
theorem bytes_any (L : List (List Nat)) (w : World) (h4 : P4 L) :
    Calls Tryd.prog 13 #[.agg (dgC L).toArray] w (BsPost w L) := by
  have H4 := Lib.hid h4
  have SP := Lib.hid (sz_path h4.ok h4.len)
  clear h4
  go_enter Tryd.func13, Tryd.ntmps13
  go_wp2_with (first
    | ((with_reducible refine at_slot 1 ?_); (refine arm_box (o := ⟨some 1, _, _, _, _, _⟩) rfl _ _ rfl (dgC L) rfl ?_); intro Y v1 Ye hv1 nv1; try simp only [Act.put, List.setIfInBounds_toArray, List.set_cons_zero, List.set_cons_succ])
    | ((with_reducible refine at_slot 6 ?_); (refine arm_load (o := ⟨some 6, _, _, _, _, _⟩) rfl _ _ rfl Y 0 rfl (dgC L) ((Has.refl _).range hv1) SP.out ?_); try simp only [Act.put, List.setIfInBounds_toArray, List.set_cons_zero, List.set_cons_succ]))
  have hbv1 := nv1.below
  have rrv1 : Row v1 Y 29 (dgC L) := hv1
  have geY : w.heap.size ≤ Y := by have := Ye.out; omega
  clear hv1 nv1 Ye
  have bel_2 : Below w.heap.size w v1 := hbv1
  clear hbv1
  try simp only [Act.put]
  have h0 : PbRel w L (.int .i64 0) (.slice none 0 0) v1 := ⟨⟨0, none, 0, by omega, rfl, rfl, own_nil _ _⟩, bel_2⟩
  clear rrv1 bel_2
  go_loopw [7, 3] (fun i v wr => PbRel w L i v wr) (fun i _ _ => 4 - (intOf i).toNat)
  case atStart => exact h0
  case round =>
    clear h0
    obtain ⟨⟨k, p, cap, hk, rfl, rfl, hO⟩, bel⟩ := hrel
    by_cases hlt : k < 4
    · have ik : (k : Int) < 4 := by omega
      have HLT := Lib.hid hlt
      have KB := Lib.hid (H4.out.at hlt)
      have HLN := Lib.hid (H4.out.take_len (k := k) (by omega))
      have HSN := Lib.hid (pathB_snoc (L := L) (k := k) (by have := H4.out.len; omega))
      go_wp2_with (first
        | ((with_reducible refine at_slot 9 ?_); (refine arm_want (.agg (u8s (L.getD k [])).toArray) 9 rfl (by kernel_rfl) (run_op_indexP H4.out _ _ rfl rfl k rfl HLT.out _) ?_); try simp only [Act.put, List.setIfInBounds_toArray, List.set_cons_zero, List.set_cons_succ])
        | ((with_reducible refine at_slot 5 ?_); (refine arm_alloc (o := ⟨some 5, _, _, _, _, _⟩) rfl _ rfl (u8s zh) zH ?_); intro G v101a Ge hGa nG; try simp only [Act.put, List.setIfInBounds_toArray, List.set_cons_zero, List.set_cons_succ])
        | ((with_reducible refine arm_store (o := ⟨none, _, _, _, _, _⟩) rfl _ _ _ rfl G 0 rfl (u8s (L.getD k [])) rfl _ _ hGa (fitH KB.out) (u8s_one _) (szH KB.out) ?_); intro v101 hGb oG sG; try simp only [Act.put, List.setIfInBounds_toArray, List.set_cons_zero, List.set_cons_succ])
        | ((with_reducible refine at_slot 11 ?_); (refine pause ?_); try simp only [Act.put, List.setIfInBounds_toArray, List.set_cons_zero, List.set_cons_succ]))
      have lG : wr.heap.size ≤ G := by have := Ge.out; omega
      have bG : Below wr.heap.size wr v101 := below_only nG.below oG lG nG.below.size
      have rrG : Row v101 G 23 (u8s (L.getD k [])) := hGb.congr (allH KB.out)
      have geG : w.heap.size ≤ G := Nat.le_trans bel.size lG
      clear hGa hGb nG oG sG Ge lG
      have O_102 : Own v101 w.heap.size p cap (pathB (L.take k)) := hO.below bG
      have bel_102 : Below w.heap.size w v101 := below_step bel bel.size bG
      clear hO bel bG
      refine go_on ?_
      go_wp2_with (first
        | ((with_reducible refine at_slot 11 ?_); (refine arm_want (.slice (some ⟨G, 0, none⟩) 32 32) 11 rfl (by kernel_rfl) (run_op_sliceAll _ _ rfl 32 5 (by kernel_rfl) (by kernel_rfl) G (0) rfl (by omega) _) ?_); try simp only [Act.put, List.setIfInBounds_toArray, List.set_cons_zero, List.set_cons_succ])
        | ((with_reducible refine at_slot 12 ?_); (refine arm_append (o := ⟨some 12, _, _, _, _, _⟩) rfl _ _ rfl w.heap.size _ _ _ (pathB (L.take k)) HLN.out.symm rfl O_102 (some ⟨G, 0, none⟩) 32 32 (L.getD k []) rfl KB.out.len.symm (fun h => by cases h) (fun _ => ⟨G, 0, rfl, (Has.refl _).range rrG⟩) (by rw [HLN.out, KB.out.len]; omega) bel_102.size ?_); intro p2 cap2 w2 hO2 hB2; try simp only [Act.put, List.setIfInBounds_toArray, List.set_cons_zero, List.set_cons_succ]))
      try simp only [Act.put]
      go_roundw
      case rel => exact ⟨⟨k + 1, p2, cap2, by omega, by go_num, rfl, HSN.out ▸ hO2⟩, bel_102.trans hB2⟩
      case measure => simp [intOf]; omega
    · obtain rfl : k = 4 := by omega
      have HX : Hid (L.take 4 = L) := Lib.hid (List.take_of_length_le (by have := H4.out.len; omega))
      rw [HX.out] at hO
      go_wp2_with fail
      go_ret
      exact ⟨⟨p, cap, rfl, hO.came (pathB_lt H4.out.ok)⟩, bel⟩
set_option maxHeartbeats 4000000 in
set_option maxRecDepth 100000 in
theorem rbytes16_any (L : List (List Nat)) (w : World) (h4 : P4 L) :
    Calls Tryd.prog 14 #[.agg (dgC L).toArray] w (BsPost w L) := by
  have H4 := Lib.hid h4
  clear h4
  go_enter Tryd.func14, Tryd.ntmps14
  go_wp2_with (first
    | ((with_reducible refine at_slot 1 ?_); (refine arm_box (o := ⟨some 1, _, _, _, _, _⟩) rfl _ _ rfl (dgC L) rfl ?_); intro Y v1 Ye hv1 nv1; try simp only [Act.put, List.setIfInBounds_toArray, List.set_cons_zero, List.set_cons_succ]))
  have hbv1 := nv1.below
  have rrv1 : Row v1 Y 28 (dgC L) := hv1
  have geY : w.heap.size ≤ Y := by have := Ye.out; omega
  clear hv1 nv1 Ye
  have bel_2 : Below w.heap.size w v1 := hbv1
  clear hbv1
  have nv2 := new_alloc v1 (Obj.cells #[] 5)
  have hv2 : Row (v1.alloc (Obj.cells #[] 5)) v1.heap.size 5 [] := heap_alloc_new _ _
  generalize v1.alloc (Obj.cells #[] 5) = v2 at nv2 hv2 ⊢
  obtain ⟨b2, be2⟩ : ∃ b, b = v1.heap.size := ⟨_, rfl⟩
  rw [← be2] at hv2 ⊢
  try simp only [Act.put]
  have zY := rrv1.lt
  obtain ⟨Z, hZ⟩ : ∃ Z, Z = v1.heap.size := ⟨_, rfl⟩
  have h0 : RbRel w Y Z L (.int .i64 0) (.slice (some ⟨b2, 0, none⟩) 0 0) v2 := ⟨⟨0, some ⟨b2, 0, none⟩, 0, by omega, rfl, rfl, own_new (show Row v2 b2 5 [] from hv2) (by omega)⟩, rrv1.old nv2.below, by have := nv2.size; omega, below_step bel_2 bel_2.size nv2.below⟩
  have HYZ : Y < Z := by omega
  have HWZ : w.heap.size ≤ Z := by have := bel_2.size; omega
  clear hv2 nv2 be2 zY hZ rrv1 bel_2
  go_loopw [4, 3] (fun i v wr => RbRel w Y Z L i v wr) (fun i _ _ => 4 - (intOf i).toNat)
  case atStart => exact h0
  case round =>
    clear h0
    obtain ⟨⟨k, p, cap, hk, rfl, rfl, hO⟩, hY, hZ, bel⟩ := hrel
    by_cases hlt : k < 4
    · have ik : (k : Int) < 4 := by omega
      have HLT := Lib.hid hlt
      have KB := Lib.hid (H4.out.at hlt)
      have HLN := Lib.hid (H4.out.take_len (k := k) (by omega))
      have HSN := Lib.hid (pathB_snoc (L := L) (k := k) (by have := H4.out.len; omega))
      have HRG : Hid (Has (dgC L) (k * 32) (u8s (L.getD k []))) := Lib.hid (by rw [Nat.mul_comm]; exact path_has H4.out.ok (H4.out.get hlt))
      go_wp2_with (first
        | ((with_reducible refine at_slot 13 ?_); (refine arm_want (.slice (some ⟨Y, k * 32, none⟩) 32 32) 13 rfl (by kernel_rfl) (run_op_sliceAll _ _ rfl 32 5 (by kernel_rfl) (by kernel_rfl) Y (k * 32) rfl (by omega) _) ?_); try simp only [Act.put, List.setIfInBounds_toArray, List.set_cons_zero, List.set_cons_succ])
        | ((with_reducible refine at_slot 14 ?_); (refine arm_append (o := ⟨some 14, _, _, _, _, _⟩) rfl _ _ rfl Z _ _ _ (pathB (L.take k)) HLN.out.symm rfl hO (some ⟨Y, k * 32, none⟩) 32 32 (L.getD k []) rfl KB.out.len.symm (fun h => by cases h) (fun _ => ⟨Y, k * 32, rfl, HRG.out.range hY⟩) (by rw [HLN.out, KB.out.len]; omega) hZ ?_); intro p2 cap2 w2 hO2 hB2; try simp only [Act.put, List.setIfInBounds_toArray, List.set_cons_zero, List.set_cons_succ]))
      try simp only [Act.put]
      go_roundw
      case rel => exact ⟨⟨k + 1, p2, cap2, by omega, by go_num, rfl, HSN.out ▸ hO2⟩, hY.below hB2 HYZ, Nat.le_trans hZ hB2.size, bel.trans (hB2.mono HWZ)⟩
      case measure => simp [intOf]; omega
    · obtain rfl : k = 4 := by omega
      have HX : Hid (L.take 4 = L) := Lib.hid (List.take_of_length_le (by have := H4.out.len; omega))
      rw [HX.out] at hO
      go_wp2_with fail
      go_ret
      exact ⟨⟨p, cap, rfl, hO.came (pathB_lt H4.out.ok)⟩, bel⟩
set_option maxHeartbeats 4000000 in
set_option maxRecDepth 100000 in
theorem read_any (b : List Nat) (p : Option Addr) (cap : Nat) (w : World) (hc : Came w p cap b) :
    Calls Tryd.prog 10 #[.slice p b.length cap] w (RdPost w b) := by
  have SZ := Lib.hid (sz_path z4_ok rfl)
  have FZ := Lib.hid (fitP z4_ok rfl); have AZ := Lib.hid (allP z4_ok rfl)
  have BZ := Lib.hid built_path
  by_cases hl : b.length = 128
  · have HP : Hid (rdP b = pathOf b) := Lib.hid (if_pos hl)
    have HE : Hid (rdE b = 0) := Lib.hid (by unfold rdE; rw [hl]; rfl)
    have HL := Lib.hid hl; have HC := Lib.hid hc
    rw [hl]
    clear hl hc
    go_enter Tryd.func10, Tryd.ntmps10
    go_wp2_with (first
      | ((with_reducible refine at_slot 2 ?_); (refine arm_alloc (o := ⟨some 2, _, _, _, _, _⟩) rfl _ rfl (dgC z4) z_path ?_); intro R v1 Re hv1 nv1; try simp only [Act.put, List.setIfInBounds_toArray, List.set_cons_zero, List.set_cons_succ])
      | ((with_reducible refine at_slot 4 ?_); (refine arm_alloc (o := ⟨some 4, _, _, _, _, _⟩) rfl _ rfl (dgC z4) z_path ?_); intro Y v2 Ye hv2 nv2; try simp only [Act.put, List.setIfInBounds_toArray, List.set_cons_zero, List.set_cons_succ]))
    have hbv1 := nv1.below
    have rrv1 : Row v1 R 29 (dgC z4) := hv1
    have hbv2 := nv2.below
    have rrv2 : Row v2 Y 29 (dgC z4) := hv2
    have geR : w.heap.size ≤ R := by have := Re.out; omega
    clear hv1 nv1 Re
    have bel_3 : Below w.heap.size w v1 := hbv1
    clear hbv1
    have geY : w.heap.size ≤ Y := by have := Ye.out; have := bel_3.size; omega
    have ltRY : R < Y := by have := Ye.out; have := rrv1.lt; omega
    clear hv2 nv2 Ye
    have R_4 : Row v2 R 29 (dgC z4) := rrv1.old hbv2
    have bel_4 : Below w.heap.size w v2 := below_step bel_3 bel_3.size hbv2
    clear rrv1 bel_3 hbv2
    try simp only [Act.put]
    have hRY : R ≠ Y := by omega
    have h0 : PrRel w Y R b (.int .i64 0) (.slice p 128 cap) v2 := ⟨⟨0, p, cap, 128, by omega, rfl, rfl, rfl, HC.out, rrv2⟩, R_4, bel_4⟩
    clear R_4 rrv2 bel_4 ltRY
    go_loopw [18, 0] (fun i v wr => PrRel w Y R b i v wr) (fun i _ _ => 4 - (intOf i).toNat)
    case atStart => exact h0
    case round =>
      clear h0
      obtain ⟨⟨k, q, c, n, hk, rfl, rfl, hn, hC, hY⟩, hR, bel⟩ := hrel
      by_cases hlt : k < 4
      · have ik : (k : Int) < 4 := by omega
        have HLT := Lib.hid hlt
        have hdl : (b.drop (32 * k)).length = n := by rw [List.length_drop, HL.out]; omega
        obtain ⟨g, o, rfl, hr⟩ := hC.at_ (fun e => by rw [e] at hdl; simp at hdl; omega)
        have HR2 := Lib.hid (range_block (range_take 32 hr) (bel.block g (range_lt hr (fun e => by have := congrArg List.length e; rw [u8s_length, hdl] at this; simp at this; omega))))
        have KB := Lib.hid (chunk_ok HC.out.lt_ HL.out hlt)
        have HT := Lib.hid (hC.tail (m := 32) (by omega))
        rw [List.drop_drop] at HT
        have HN : Hid (n - 32 = 128 - 32 * (k + 1)) := Lib.hid (by omega)
        have HN2 : Hid (32 ≤ n) := Lib.hid (by omega)
        have HLY : Hid (lay (dgC (rdL b k)) (k * 32) (u8s ((b.drop (32 * k)).take 32)) = dgC (rdL b (k + 1))) := Lib.hid (by rw [Nat.mul_comm k 32]; exact path_lay' (rdL_ok HC.out.lt_ HL.out k (by omega)) KB.out (by rw [rdL_len]; omega))
        have HFT : Hid (k * 32 + (u8s ((b.drop (32 * k)).take 32)).length ≤ (dgC (rdL b k)).length) := Lib.hid (by rw [dg4 (rdL_ok HC.out.lt_ HL.out k (by omega)) (rdL_len b k), h_len KB.out]; omega)
        clear hr hC hdl hn
        generalize (b.drop (32 * k)).take 32 = ch at HR2 KB HLY HFT
        go_wp2_with (first
          | ((with_reducible refine at_slot 23 ?_); (refine arm_want (.slice (some ⟨Y, k * 32, none⟩) 32 32) 23 rfl (by kernel_rfl) (run_op_sliceAll _ _ rfl 32 5 (by kernel_rfl) (by kernel_rfl) Y (k * 32) rfl (by omega) _) ?_); try simp only [Act.put, List.setIfInBounds_toArray, List.set_cons_zero, List.set_cons_succ])
          | ((with_reducible refine at_slot 25 ?_); (refine arm_copy (o := ⟨some 25, _, _, _, _, _⟩) rfl _ _ _ _ rfl 5 (by kernel_rfl) (by kernel_rfl) Y (k * 32) _ _ rfl g o _ _ rfl (u8s ch) 32 (h_len KB.out) (by have := HN2.out; show 32 = min n 32; omega) HR2.out _ _ hY HFT.out (u8s_one _) ?_); intro w2 hY2 oY2 sY2; try simp only [Act.put, List.setIfInBounds_toArray, List.set_cons_zero, List.set_cons_succ])
          | ((with_reducible refine at_slot 28 ?_); (refine arm_tail (o := ⟨some 28, _, _, _, _, _⟩) rfl _ _ _ rfl 5 (by kernel_rfl) (by kernel_rfl) (some ⟨g, o, none⟩) n c rfl .i64 _ rfl 32 rfl HN2.out ?_); try simp only [Act.put, List.setIfInBounds_toArray, List.set_cons_zero, List.set_cons_succ]))
        try simp only [Act.put]
        go_roundw
        case rel => exact ⟨⟨k + 1, _, _, _, by omega, by go_num, rfl, HN.out, HT.out, hY2.congr HLY.out⟩, hR.only oY2 hRY, below_only bel oY2 geY bel.size⟩
        case measure => simp [intOf]; omega
      · obtain rfl : k = 4 := by omega
        rw [rdL_all b, ← HP.out] at hY
        have KP : Hid (P4 (rdP b)) := Lib.hid (rdP_p4 HC.out.lt_)
        have KS := Lib.hid (sz_path KP.out.ok KP.out.len); have KF := Lib.hid (fitP KP.out.ok KP.out.len); have KA := Lib.hid (allP KP.out.ok KP.out.len)
        have HG : Hid (rdP b = rdP b) := Lib.hid rfl
        obtain ⟨pp, hpp⟩ : ∃ pp, pp = rdP b := ⟨_, rfl⟩
        have HPP := Lib.hid hpp
        rw [← hpp] at hY KS KF KA
        clear hpp HG KP
        go_wp2_with (first
          | ((with_reducible refine at_slot 30 ?_); (refine arm_load (o := ⟨some 30, _, _, _, _, _⟩) rfl _ _ rfl Y 0 rfl (dgC pp) ((Has.refl _).range hY) KS.out ?_); try simp only [Act.put, List.setIfInBounds_toArray, List.set_cons_zero, List.set_cons_succ])
          | ((with_reducible refine arm_store (o := ⟨none, _, _, _, _, _⟩) rfl _ _ _ rfl R 0 rfl (dgC pp) rfl _ _ (hR) KF.out (dgC_ones _) KS.out ?_); intro y9 hy9 oy9 sy9; try simp only [Act.put, List.setIfInBounds_toArray, List.set_cons_zero, List.set_cons_succ]))
        exact bodyPost_ret (result_row2 (p := 2) (u := 3) (ty := 29) (t := 29) (by kernel_rfl) _ _ R (dgC pp) (.int .i64 0) rfl rfl (hy9.congr KA.out) KS.out) rfl ⟨by rw [HE.out, ← HPP.out]; rfl, below_only bel oy9 geR bel.size⟩
  · have HP : Hid (rdP b = z4) := Lib.hid (if_neg hl)
    by_cases hs : b.length < 128
    · have HE : Hid (rdE b = 3) := Lib.hid (if_pos hs)
      have d1 : decide ((b.length : Int) < 128) = true := decide_eq_true (by omega)
      generalize b.length = n at d1 ⊢
      clear hc hl hs
      go_enter Tryd.func10, Tryd.ntmps10
      go_wp2_with (first
        | ((with_reducible refine at_slot 2 ?_); (refine arm_alloc (o := ⟨some 2, _, _, _, _, _⟩) rfl _ rfl (dgC z4) z_path ?_); intro R v1 Re hv1 nv1; try simp only [Act.put, List.setIfInBounds_toArray, List.set_cons_zero, List.set_cons_succ])
        | ((with_reducible refine at_slot 4 ?_); (refine arm_alloc (o := ⟨some 4, _, _, _, _, _⟩) rfl _ rfl (dgC z4) z_path ?_); intro Y v2 Ye hv2 nv2; try simp only [Act.put, List.setIfInBounds_toArray, List.set_cons_zero, List.set_cons_succ])
        | ((with_reducible refine at_slot 12 ?_); (refine arm_build (o := ⟨some 12, _, _, _, _, _⟩) rfl _ _ rfl (dgC z4) (by simp only [List.map_toArray, List.map_nil]; exact BZ.out) ?_); try simp only [Act.put, List.setIfInBounds_toArray, List.set_cons_zero, List.set_cons_succ])
        | ((with_reducible refine arm_store (o := ⟨none, _, _, _, _, _⟩) rfl _ _ _ rfl R 0 rfl (dgC z4) rfl _ _ ((hv1.old nv2.below)) FZ.out (dgC_ones _) SZ.out ?_); intro y9 hy9 oy9 sy9; try simp only [Act.put, List.setIfInBounds_toArray, List.set_cons_zero, List.set_cons_succ]))
      have hbv1 := nv1.below
      have rrv1 : Row v1 R 29 (dgC z4) := hv1
      have hbv2 := nv2.below
      have rrv2 : Row v2 Y 29 (dgC z4) := hv2
      have geR : w.heap.size ≤ R := by have := Re.out; omega
      clear hv1 nv1 Re
      have bel_3 : Below w.heap.size w v1 := hbv1
      clear hbv1
      have geY : w.heap.size ≤ Y := by have := Ye.out; have := bel_3.size; omega
      have ltRY : R < Y := by have := Ye.out; have := rrv1.lt; omega
      clear hv2 nv2 Ye
      have R_4 : Row v2 R 29 (dgC z4) := rrv1.old hbv2
      have bel_4 : Below w.heap.size w v2 := below_step bel_3 bel_3.size hbv2
      clear rrv1 bel_3 hbv2
      exact bodyPost_ret (result_row2 (p := 2) (u := 3) (ty := 29) (t := 29) (by kernel_rfl) _ _ R (dgC z4) (.int .i64 3) rfl rfl (hy9.congr AZ.out) SZ.out) rfl ⟨by rw [HP.out, HE.out]; rfl, below_only bel_4 oy9 geR bel_4.size⟩
    · have HE : Hid (rdE b = 4) := Lib.hid (by unfold rdE; rw [if_neg hs, if_pos (by omega)])
      have d1 : decide ((b.length : Int) < 128) = false := decide_eq_false (by omega)
      have d2 : decide ((128 : Int) < (b.length : Int)) = true := decide_eq_true (by omega)
      generalize b.length = n at d1 d2 ⊢
      clear hc hl hs
      go_enter Tryd.func10, Tryd.ntmps10
      go_wp2_with (first
        | ((with_reducible refine at_slot 2 ?_); (refine arm_alloc (o := ⟨some 2, _, _, _, _, _⟩) rfl _ rfl (dgC z4) z_path ?_); intro R v1 Re hv1 nv1; try simp only [Act.put, List.setIfInBounds_toArray, List.set_cons_zero, List.set_cons_succ])
        | ((with_reducible refine at_slot 4 ?_); (refine arm_alloc (o := ⟨some 4, _, _, _, _, _⟩) rfl _ rfl (dgC z4) z_path ?_); intro Y v2 Ye hv2 nv2; try simp only [Act.put, List.setIfInBounds_toArray, List.set_cons_zero, List.set_cons_succ])
        | ((with_reducible refine at_slot 17 ?_); (refine arm_build (o := ⟨some 17, _, _, _, _, _⟩) rfl _ _ rfl (dgC z4) (by simp only [List.map_toArray, List.map_nil]; exact BZ.out) ?_); try simp only [Act.put, List.setIfInBounds_toArray, List.set_cons_zero, List.set_cons_succ])
        | ((with_reducible refine arm_store (o := ⟨none, _, _, _, _, _⟩) rfl _ _ _ rfl R 0 rfl (dgC z4) rfl _ _ ((hv1.old nv2.below)) FZ.out (dgC_ones _) SZ.out ?_); intro y9 hy9 oy9 sy9; try simp only [Act.put, List.setIfInBounds_toArray, List.set_cons_zero, List.set_cons_succ]))
      have hbv1 := nv1.below
      have rrv1 : Row v1 R 29 (dgC z4) := hv1
      have hbv2 := nv2.below
      have rrv2 : Row v2 Y 29 (dgC z4) := hv2
      have geR : w.heap.size ≤ R := by have := Re.out; omega
      clear hv1 nv1 Re
      have bel_3 : Below w.heap.size w v1 := hbv1
      clear hbv1
      have geY : w.heap.size ≤ Y := by have := Ye.out; have := bel_3.size; omega
      have ltRY : R < Y := by have := Ye.out; have := rrv1.lt; omega
      clear hv2 nv2 Ye
      have R_4 : Row v2 R 29 (dgC z4) := rrv1.old hbv2
      have bel_4 : Below w.heap.size w v2 := below_step bel_3 bel_3.size hbv2
      clear rrv1 bel_3 hbv2
      exact bodyPost_ret (result_row2 (p := 2) (u := 3) (ty := 29) (t := 29) (by kernel_rfl) _ _ R (dgC z4) (.int .i64 4) rfl rfl (hy9.congr AZ.out) SZ.out) rfl ⟨by rw [HP.out, HE.out]; rfl, below_only bel_4 oy9 geR bel_4.size⟩
set_option maxHeartbeats 4000000 in
set_option maxRecDepth 100000 in
theorem rread16_any (b : List Nat) (p : Option Addr) (cap : Nat) (w : World) (hc : Came w p cap b) :
    Calls Tryd.prog 11 #[.slice p b.length cap] w (RdPost w b) := by
  have SZ := Lib.hid (sz_rpath z4_ok rfl)
  have FZ := Lib.hid (fitP z4_ok rfl); have AZ := Lib.hid (allP z4_ok rfl)
  have BZ := Lib.hid built_rpath
  by_cases hl : b.length = 128
  · have HP : Hid (rdP b = pathOf b) := Lib.hid (if_pos hl)
    have HE : Hid (rdE b = 0) := Lib.hid (by unfold rdE; rw [hl]; rfl)
    have HL := Lib.hid hl; have HC := Lib.hid hc
    obtain ⟨g, o, rfl, hr⟩ := hc.at_ (fun e => by rw [e] at hl; simp at hl)
    have HR2 := Lib.hid hr
    rw [hl]
    clear hl hc hr
    go_enter Tryd.func11, Tryd.ntmps11
    go_wp2_with (first
      | ((with_reducible refine at_slot 2 ?_); (refine arm_alloc (o := ⟨some 2, _, _, _, _, _⟩) rfl _ rfl (dgC z4) z_rpath ?_); intro R v1 Re hv1 nv1; try simp only [Act.put, List.setIfInBounds_toArray, List.set_cons_zero, List.set_cons_succ])
      | ((with_reducible refine at_slot 6 ?_); (refine pause ?_); try simp only [Act.put, List.setIfInBounds_toArray, List.set_cons_zero, List.set_cons_succ]))
    have hbv1 := nv1.below
    have rrv1 : Row v1 R 28 (dgC z4) := hv1
    have geR : w.heap.size ≤ R := by have := Re.out; omega
    clear hv1 nv1 Re
    have bel_2 : Below w.heap.size w v1 := hbv1
    clear hbv1
    refine go_on ?_
    go_wp2_with (first
      | ((with_reducible refine at_slot 6 ?_); (refine arm_build (o := ⟨some 6, _, _, _, _, _⟩) rfl _ _ rfl (dgC z4) (by simp only [List.map_toArray, List.map_nil]; exact BZ.out) ?_); try simp only [Act.put, List.setIfInBounds_toArray, List.set_cons_zero, List.set_cons_succ])
      | ((with_reducible refine at_slot 4 ?_); (refine arm_alloc (o := ⟨some 4, _, _, _, _, _⟩) rfl _ rfl (dgC z4) z_rpath ?_); intro Y v3a Ye hYa nY; try simp only [Act.put, List.setIfInBounds_toArray, List.set_cons_zero, List.set_cons_succ])
      | ((with_reducible refine arm_store (o := ⟨none, _, _, _, _, _⟩) rfl _ _ _ rfl Y 0 rfl (dgC z4) rfl _ _ hYa FZ.out (dgC_ones _) SZ.out ?_); intro v3 hYb oY sY; try simp only [Act.put, List.setIfInBounds_toArray, List.set_cons_zero, List.set_cons_succ]))
    have lY : v1.heap.size ≤ Y := by have := Ye.out; omega
    have bY : Below v1.heap.size v1 v3 := below_only nY.below oY lY nY.below.size
    have rrY : Row v3 Y 28 (dgC z4) := hYb.congr AZ.out
    have geY : w.heap.size ≤ Y := Nat.le_trans bel_2.size lY
    have neRY : R ≠ Y := by have := rrv1.lt; omega
    clear hYa hYb nY oY sY Ye lY
    have R_4 : Row v3 R 28 (dgC z4) := rrv1.old bY
    have bel_4 : Below w.heap.size w v3 := below_step bel_2 bel_2.size bY
    clear rrv1 bel_2 bY
    try simp only [Act.put]
    have h0 : RrRel w Y R b (.int .i64 0) v3 := ⟨⟨0, by omega, rfl, rrY.congr (byB_zero b).symm⟩, R_4, bel_4⟩
    clear R_4 rrY bel_4
    go_loopw [5] (fun i wr => RrRel w Y R b i wr) (fun i _ => 128 - (intOf i).toNat)
    case atStart => exact h0
    case round =>
      clear h0
      obtain ⟨⟨k, hk, rfl, hY⟩, hR, bel⟩ := hrel
      by_cases hlt : k < 128
      · have ik : (k : Int) < 128 := by omega
        have HLT := Lib.hid hlt
        have HKB : Hid (k < b.length) := Lib.hid (by rw [HL.out]; exact hlt)
        have HQ : Hid (k / 32 < 4) := Lib.hid (by omega)
        have HM : Hid (k % 32 < 32) := Lib.hid (by omega)
        have HA : Hid (32 * (k / 32) + k % 32 * 1 = k) := Lib.hid (by omega)
        have HSET := Lib.hid (byB_set HL.out hlt)
        have HLEN := Lib.hid (byB_len HL.out (k := k) (by omega))
        have HK : Hid (k ≤ 9223372036854775807) := Lib.hid (by omega)
        obtain ⟨by_, hby⟩ : ∃ x, x = b.getD k 0 := ⟨_, rfl⟩
        have HC2 : Hid (∀ w', Below w.heap.size w w' → w'.cell? ⟨g, o + k, none⟩ = some (.int .u8 ((by_ : Nat) : Int))) := Lib.hid fun w' hb => hby ▸ cell_below HR2.out HKB.out hb
        rw [← hby] at HSET
        clear hby
        obtain ⟨bs, hbs⟩ : ∃ x, x = byB b k := ⟨_, rfl⟩
        rw [← hbs] at HSET HLEN hY
        obtain ⟨kq, hkq⟩ : ∃ x, x = k / 32 := ⟨_, rfl⟩
        obtain ⟨kr, hkr⟩ : ∃ x, x = k % 32 := ⟨_, rfl⟩
        rw [← hkq, ← hkr] at HA
        rw [← hkq] at HQ
        rw [← hkr] at HM
        have HKQ := Lib.hid hkq; have HKR := Lib.hid hkr
        clear hbs hkq hkr
        go_wp2_with fail
        refine wp_region_held (S := fun w' => Below w.heap.size w w' ∧ True) (by kernel_rfl) ?_
        change wpAnyH _ _ _ _ _ _ _ _ wr.drew
        have hd101 : Below wr.heap.size wr wr.drew := (Below.refl _ _).drew
        have Y_102 : Row wr.drew Y 28 (u8s bs) := hY.old hd101
        have R_102 : Row wr.drew R 28 (dgC z4) := hR.old hd101
        have bel_102 : Below w.heap.size w wr.drew := below_step bel bel.size hd101
        clear hY hR bel hd101
        generalize wr.drew = yz101 at Y_102 R_102 bel_102 ⊢
        refine h_take 0 (.int .i64 (k : Int)) rfl 19 rfl (by kernel_rfl) (by kernel_rfl) (by kernel_rfl) (by kernel_rfl) (fun _ _ _ h => h) (fun w' _ => by kernel_rfl) ⟨bel_102, trivial⟩ ?_
        simp only [Act.put, List.setIfInBounds_toArray, List.set_cons_zero, List.set_cons_succ]
        refine h_take 1 (.int .i64 ((kq : Nat) : Int)) rfl 20 rfl (by kernel_rfl) (by kernel_rfl) (by kernel_rfl) (by kernel_rfl) (fun _ _ _ h => h) (fun w' _ => by rw [HKQ.out]; exact run_op_quoN _ _ _ _ rfl k 32 rfl rfl (by omega) HK.out w') ⟨bel_102, trivial⟩ ?_
        simp only [Act.put, List.setIfInBounds_toArray, List.set_cons_zero, List.set_cons_succ]
        refine h_take 2 (.int .i64 (k : Int)) rfl 21 rfl (by kernel_rfl) (by kernel_rfl) (by kernel_rfl) (by kernel_rfl) (fun _ _ _ h => h) (fun w' _ => by kernel_rfl) ⟨bel_102, trivial⟩ ?_
        simp only [Act.put, List.setIfInBounds_toArray, List.set_cons_zero, List.set_cons_succ]
        refine h_take 3 (.int .i64 ((kr : Nat) : Int)) rfl 22 rfl (by kernel_rfl) (by kernel_rfl) (by kernel_rfl) (by kernel_rfl) (fun _ _ _ h => h) (fun w' _ => by rw [HKR.out]; exact run_op_remN _ _ _ _ rfl k 32 rfl rfl (by omega) w') ⟨bel_102, trivial⟩ ?_
        simp only [Act.put, List.setIfInBounds_toArray, List.set_cons_zero, List.set_cons_succ]
        refine h_take 4 (.slice (some ⟨g, o, none⟩) 128 cap) rfl 23 rfl (by kernel_rfl) (by kernel_rfl) (by kernel_rfl) (by kernel_rfl) (fun _ _ _ h => h) (fun w' _ => by kernel_rfl) ⟨bel_102, trivial⟩ ?_
        simp only [Act.put, List.setIfInBounds_toArray, List.set_cons_zero, List.set_cons_succ]
        refine h_take 5 (.int .i64 (k : Int)) rfl 24 rfl (by kernel_rfl) (by kernel_rfl) (by kernel_rfl) (by kernel_rfl) (fun _ _ _ h => h) (fun w' _ => by kernel_rfl) ⟨bel_102, trivial⟩ ?_
        simp only [Act.put, List.setIfInBounds_toArray, List.set_cons_zero, List.set_cons_succ]
        refine h_take 6 (.pointer (some ⟨g, o + k, none⟩)) rfl 25 rfl (by kernel_rfl) (by kernel_rfl) (by kernel_rfl) (by kernel_rfl) (fun _ _ _ h => h) (fun w' _ => run_op_idxS _ _ _ rfl 5 (by kernel_rfl) (by kernel_rfl) g o 128 cap rfl .i64 _ rfl k rfl HLT.out w') ⟨bel_102, trivial⟩ ?_
        simp only [Act.put, List.setIfInBounds_toArray, List.set_cons_zero, List.set_cons_succ]
        refine h_take 7 (.int .u8 ((by_ : Nat) : Int)) rfl 26 rfl (by kernel_rfl) (by kernel_rfl) (by kernel_rfl) (by kernel_rfl) (fun _ _ _ h => h) (fun w' hw => run_op_load8 _ rfl ⟨g, o + k, none⟩ rfl _ (HC2.out w' hw.1)) ⟨bel_102, trivial⟩ ?_
        simp only [Act.put, List.setIfInBounds_toArray, List.set_cons_zero, List.set_cons_succ]
        refine h_take 8 (.pointer (some ⟨Y, 32 * kq, none⟩)) rfl 27 rfl (by kernel_rfl) (by kernel_rfl) (by kernel_rfl) (by kernel_rfl) (fun _ _ _ h => h) (fun w' _ => run_op_arr _ _ _ rfl 4 23 32 (by kernel_rfl) (by kernel_rfl) Y 0 rfl .i64 _ rfl kq rfl HQ.out (32 * kq) (by omega) w') ⟨bel_102, trivial⟩ ?_
        simp only [Act.put, List.setIfInBounds_toArray, List.set_cons_zero, List.set_cons_succ]
        refine h_take 9 (.pointer (some ⟨Y, k, none⟩)) rfl 28 rfl (by kernel_rfl) (by kernel_rfl) (by kernel_rfl) (by kernel_rfl) (fun _ _ _ h => h) (fun w' _ => run_op_arr _ _ _ rfl 32 5 1 (by kernel_rfl) (by kernel_rfl) Y (32 * kq) rfl .i64 _ rfl kr rfl HM.out k HA.out w') ⟨bel_102, trivial⟩ ?_
        simp only [Act.put, List.setIfInBounds_toArray, List.set_cons_zero, List.set_cons_succ]
        refine h_one (i := 10) (by kernel_rfl) (o_skip rfl rfl (by kernel_rfl) (run_op_storeV _ _ _ rfl Y k rfl (.int .u8 ((by_ : Nat) : Int)) rfl (one_i _ _) (by kernel_rfl) _ _ Y_102 (by rw [u8s_length, HLEN.out]; exact HLT.out)) ?_)
        have rq := row_setRow Y_102 ((u8s bs).set k (.int .u8 ((by_ : Nat) : Int)))
        have oq := Only.setRow Y yz101 ((u8s bs).set k (.int .u8 ((by_ : Nat) : Int))).toArray
        generalize yz101.setRow Y ((u8s bs).set k (.int .u8 ((by_ : Nat) : Int))).toArray = y103 at rq oq ⊢
        have Y_104 : Row y103 Y 28 (u8s (byB b (k + 1))) := rq.congr HSET.out
        have R_104 : Row y103 R 28 (dgC z4) := R_102.only oq neRY
        have bel_104 : Below w.heap.size w y103 := below_only bel_102 oq geY bel_102.size
        clear Y_102 R_102 bel_102 oq
        clear rq
        refine ⟨⟨bel_104, trivial⟩, ?_⟩
        refine wpAnyH_done (by kernel_rfl) ?_ _
        go_wp2_with fail
        try simp only [Act.put]
        go_roundw
        case rel => exact ⟨⟨k + 1, by omega, by go_num, Y_104⟩, R_104, bel_104⟩
        case measure => simp [intOf]; omega
      · obtain rfl : k = 128 := by omega
        rw [byB_all HL.out, ← HP.out] at hY
        have KP : Hid (P4 (rdP b)) := Lib.hid (rdP_p4 HC.out.lt_)
        have KS := Lib.hid (sz_rpath KP.out.ok KP.out.len); have KF := Lib.hid (fitP KP.out.ok KP.out.len); have KA := Lib.hid (allP KP.out.ok KP.out.len)
        obtain ⟨pp, hpp⟩ : ∃ pp, pp = rdP b := ⟨_, rfl⟩
        have HPP := Lib.hid hpp
        rw [← hpp] at hY KS KF KA
        clear hpp KP
        go_wp2_with (first
          | ((with_reducible refine at_slot 29 ?_); (refine arm_load (o := ⟨some 29, _, _, _, _, _⟩) rfl _ _ rfl Y 0 rfl (dgC pp) ((Has.refl _).range hY) KS.out ?_); try simp only [Act.put, List.setIfInBounds_toArray, List.set_cons_zero, List.set_cons_succ])
          | ((with_reducible refine arm_store (o := ⟨none, _, _, _, _, _⟩) rfl _ _ _ rfl R 0 rfl (dgC pp) rfl _ _ (hR) KF.out (dgC_ones _) KS.out ?_); intro y9 hy9 oy9 sy9; try simp only [Act.put, List.setIfInBounds_toArray, List.set_cons_zero, List.set_cons_succ]))
        exact bodyPost_ret (result_row2 (p := 2) (u := 3) (ty := 28) (t := 28) (by kernel_rfl) _ _ R (dgC pp) (.int .i64 0) rfl rfl (hy9.congr KA.out) KS.out) rfl ⟨by rw [HE.out, ← HPP.out]; rfl, below_only bel oy9 geR bel.size⟩
  · have HP : Hid (rdP b = z4) := Lib.hid (if_neg hl)
    by_cases hs : b.length < 128
    · have HE : Hid (rdE b = 3) := Lib.hid (if_pos hs)
      have d1 : decide ((b.length : Int) < 128) = true := decide_eq_true (by omega)
      generalize b.length = n at d1 ⊢
      clear hc hl hs
      go_enter Tryd.func11, Tryd.ntmps11
      go_wp2_with (first
        | ((with_reducible refine at_slot 2 ?_); (refine arm_alloc (o := ⟨some 2, _, _, _, _, _⟩) rfl _ rfl (dgC z4) z_rpath ?_); intro R v1 Re hv1 nv1; try simp only [Act.put, List.setIfInBounds_toArray, List.set_cons_zero, List.set_cons_succ])
        | ((with_reducible refine at_slot 6 ?_); (refine pause ?_); try simp only [Act.put, List.setIfInBounds_toArray, List.set_cons_zero, List.set_cons_succ]))
      have hbv1 := nv1.below
      have rrv1 : Row v1 R 28 (dgC z4) := hv1
      have geR : w.heap.size ≤ R := by have := Re.out; omega
      clear hv1 nv1 Re
      have bel_2 : Below w.heap.size w v1 := hbv1
      clear hbv1
      refine go_on ?_
      go_wp2_with (first
        | ((with_reducible refine at_slot 6 ?_); (refine arm_build (o := ⟨some 6, _, _, _, _, _⟩) rfl _ _ rfl (dgC z4) (by simp only [List.map_toArray, List.map_nil]; exact BZ.out) ?_); try simp only [Act.put, List.setIfInBounds_toArray, List.set_cons_zero, List.set_cons_succ])
        | ((with_reducible refine at_slot 4 ?_); (refine arm_alloc (o := ⟨some 4, _, _, _, _, _⟩) rfl _ rfl (dgC z4) z_rpath ?_); intro Y v3a Ye hYa nY; try simp only [Act.put, List.setIfInBounds_toArray, List.set_cons_zero, List.set_cons_succ])
        | ((with_reducible refine arm_store (o := ⟨none, _, _, _, _, _⟩) rfl _ _ _ rfl Y 0 rfl (dgC z4) rfl _ _ hYa FZ.out (dgC_ones _) SZ.out ?_); intro v3 hYb oY sY; try simp only [Act.put, List.setIfInBounds_toArray, List.set_cons_zero, List.set_cons_succ])
        | ((with_reducible refine at_slot 10 ?_); (refine arm_load (o := ⟨some 10, _, _, _, _, _⟩) rfl _ _ rfl Y 0 rfl (dgC z4) ((Has.refl _).range (hYb.congr AZ.out)) SZ.out ?_); try simp only [Act.put, List.setIfInBounds_toArray, List.set_cons_zero, List.set_cons_succ])
        | ((with_reducible refine arm_store (o := ⟨none, _, _, _, _, _⟩) rfl _ _ _ rfl R 0 rfl (dgC z4) rfl _ _ (((rrv1.old nY.below).only oY (by have := Ye.out; have := rrv1.lt; omega))) FZ.out (dgC_ones _) SZ.out ?_); intro y9 hy9 oy9 sy9; try simp only [Act.put, List.setIfInBounds_toArray, List.set_cons_zero, List.set_cons_succ]))
      have lY : v1.heap.size ≤ Y := by have := Ye.out; omega
      have bY : Below v1.heap.size v1 v3 := below_only nY.below oY lY nY.below.size
      have rrY : Row v3 Y 28 (dgC z4) := hYb.congr AZ.out
      have geY : w.heap.size ≤ Y := Nat.le_trans bel_2.size lY
      have neRY : R ≠ Y := by have := rrv1.lt; omega
      clear hYa hYb nY oY sY Ye lY
      have R_4 : Row v3 R 28 (dgC z4) := rrv1.old bY
      have bel_4 : Below w.heap.size w v3 := below_step bel_2 bel_2.size bY
      clear rrv1 bel_2 bY
      exact bodyPost_ret (result_row2 (p := 2) (u := 3) (ty := 28) (t := 28) (by kernel_rfl) _ _ R (dgC z4) (.int .i64 3) rfl rfl (hy9.congr AZ.out) SZ.out) rfl ⟨by rw [HP.out, HE.out]; rfl, below_only bel_4 oy9 geR bel_4.size⟩
    · have HE : Hid (rdE b = 4) := Lib.hid (by unfold rdE; rw [if_neg hs, if_pos (by omega)])
      have d1 : decide ((b.length : Int) < 128) = false := decide_eq_false (by omega)
      have d2 : decide ((128 : Int) < (b.length : Int)) = true := decide_eq_true (by omega)
      generalize b.length = n at d1 d2 ⊢
      clear hc hl hs
      go_enter Tryd.func11, Tryd.ntmps11
      go_wp2_with (first
        | ((with_reducible refine at_slot 2 ?_); (refine arm_alloc (o := ⟨some 2, _, _, _, _, _⟩) rfl _ rfl (dgC z4) z_rpath ?_); intro R v1 Re hv1 nv1; try simp only [Act.put, List.setIfInBounds_toArray, List.set_cons_zero, List.set_cons_succ])
        | ((with_reducible refine at_slot 6 ?_); (refine pause ?_); try simp only [Act.put, List.setIfInBounds_toArray, List.set_cons_zero, List.set_cons_succ]))
      have hbv1 := nv1.below
      have rrv1 : Row v1 R 28 (dgC z4) := hv1
      have geR : w.heap.size ≤ R := by have := Re.out; omega
      clear hv1 nv1 Re
      have bel_2 : Below w.heap.size w v1 := hbv1
      clear hbv1
      refine go_on ?_
      go_wp2_with (first
        | ((with_reducible refine at_slot 6 ?_); (refine arm_build (o := ⟨some 6, _, _, _, _, _⟩) rfl _ _ rfl (dgC z4) (by simp only [List.map_toArray, List.map_nil]; exact BZ.out) ?_); try simp only [Act.put, List.setIfInBounds_toArray, List.set_cons_zero, List.set_cons_succ])
        | ((with_reducible refine at_slot 4 ?_); (refine arm_alloc (o := ⟨some 4, _, _, _, _, _⟩) rfl _ rfl (dgC z4) z_rpath ?_); intro Y v3a Ye hYa nY; try simp only [Act.put, List.setIfInBounds_toArray, List.set_cons_zero, List.set_cons_succ])
        | ((with_reducible refine arm_store (o := ⟨none, _, _, _, _, _⟩) rfl _ _ _ rfl Y 0 rfl (dgC z4) rfl _ _ hYa FZ.out (dgC_ones _) SZ.out ?_); intro v3 hYb oY sY; try simp only [Act.put, List.setIfInBounds_toArray, List.set_cons_zero, List.set_cons_succ])
        | ((with_reducible refine at_slot 14 ?_); (refine arm_load (o := ⟨some 14, _, _, _, _, _⟩) rfl _ _ rfl Y 0 rfl (dgC z4) ((Has.refl _).range (hYb.congr AZ.out)) SZ.out ?_); try simp only [Act.put, List.setIfInBounds_toArray, List.set_cons_zero, List.set_cons_succ])
        | ((with_reducible refine arm_store (o := ⟨none, _, _, _, _, _⟩) rfl _ _ _ rfl R 0 rfl (dgC z4) rfl _ _ (((rrv1.old nY.below).only oY (by have := Ye.out; have := rrv1.lt; omega))) FZ.out (dgC_ones _) SZ.out ?_); intro y9 hy9 oy9 sy9; try simp only [Act.put, List.setIfInBounds_toArray, List.set_cons_zero, List.set_cons_succ]))
      have lY : v1.heap.size ≤ Y := by have := Ye.out; omega
      have bY : Below v1.heap.size v1 v3 := below_only nY.below oY lY nY.below.size
      have rrY : Row v3 Y 28 (dgC z4) := hYb.congr AZ.out
      have geY : w.heap.size ≤ Y := Nat.le_trans bel_2.size lY
      have neRY : R ≠ Y := by have := rrv1.lt; omega
      clear hYa hYb nY oY sY Ye lY
      have R_4 : Row v3 R 28 (dgC z4) := rrv1.old bY
      have bel_4 : Below w.heap.size w v3 := below_step bel_2 bel_2.size bY
      clear rrv1 bel_2 bY
      exact bodyPost_ret (result_row2 (p := 2) (u := 3) (ty := 28) (t := 28) (by kernel_rfl) _ _ R (dgC z4) (.int .i64 4) rfl rfl (hy9.congr AZ.out) SZ.out) rfl ⟨by rw [HP.out, HE.out]; rfl, below_only bel_4 oy9 geR bel_4.size⟩
end Go.Proofs.YtaihhbiocolhcaaDoor.Pf
