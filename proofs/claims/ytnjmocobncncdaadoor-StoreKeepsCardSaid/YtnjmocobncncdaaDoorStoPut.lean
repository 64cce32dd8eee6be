/-
  The contract of the store's put. Over this seat's translation.
-/
import Derived.Test.YtnjmocobncncdaaDoorStoLeaf
import Derived.Test.YtnjmocobncncdaaDoorCmp
namespace Go.Proofs.YtnjmocobncncdaaDoor.So
open Go.ChangeShapes Go.WideShapes Go.ChangeAt Go.RowKit Go.Proofs.YtnjmocobncncdaaDoor.Mem Go.Proofs.YtnjmocobncncdaaDoor.Bt Go.Proofs.YtnjmocobncncdaaDoor.Km
open Go.Proofs.YtnjmocobncncdaaDoor.Ep (H32 zh zh_ok Has h_len szH zH fitH allH one_app num32)
open Go.Proofs.YtnjmocobncncdaaDoor.Sl (Kind At bk)
open Go.Proofs.YtnjmocobncncdaaDoor.Sa (Sta scs digS digS_ok sz_sta h_drw h_lngth)
open Go.Proofs.YtnjmocobncncdaaDoor.Od (Ky kcs keyN keyN_ok kcs_len kcs_one kcmp kval zk z_key sz_key fitK allK built_key compare_anyD)
set_option linter.unusedVariables false
set_option linter.unusedSimpArgs false

def hasB (h : List Nat) (L : List Sta) : Bool := L.any fun y => decide (digS y = h)
theorem has_true {h : List Nat} {L : List Sta} : hasB h L = true ↔ has digS h L := by
  unfold hasB has
  simp
def putL (r : Nat) (pin : Option (List Nat)) (x : Sta) (L : List Sta) : List Sta × Option Sta := if hasB (digS x) L = true then (L, none) else less digS r pin (ins vK x L)
theorem ins_perm (x : Sta) : ∀ L : List Sta, (ins vK x L).Perm (x :: L)
  | [] => List.Perm.refl _
  | y :: L => by
    unfold ins
    split
    · exact ((ins_perm x L).cons y).trans (List.Perm.swap x y L)
    · exact List.Perm.refl _
theorem filter_erase : ∀ {L : List Sta}, (L.Pairwise fun a b => digS a ≠ digS b) → ∀ {i : Nat} (hi : i < L.length), (L.filter fun y => decide (digS y ≠ digS L[i])) = L.eraseIdx i
  | [], _, i, hi => by simp at hi
  | x :: L, h, 0, _ => by
    have h1 : ∀ z ∈ L, digS x ≠ digS z := fun z hz => List.rel_of_pairwise_cons h hz
    rw [List.eraseIdx_cons_zero, List.filter_cons_of_neg (by simp)]
    exact List.filter_eq_self.2 fun z hz => decide_eq_true (fun e => h1 z hz (by simpa using e.symm))
  | x :: L, h, i + 1, hi => by
    have h1 : ∀ z ∈ L, digS x ≠ digS z := fun z hz => List.rel_of_pairwise_cons h hz
    have hi' : i < L.length := by simpa using hi
    rw [List.eraseIdx_cons_succ, List.filter_cons_of_pos (by simpa using h1 _ (List.getElem_mem hi'))]
    congr 1
    exact filter_erase h.of_cons hi'
theorem nodup_pair {L : List Sta} (h : (L.map digS).Nodup) : L.Pairwise fun a b => digS a ≠ digS b := List.pairwise_map.1 h
theorem ents_pair {E : Ents} {L : List Sta} (hn : (E.map fun p => digS p.1).Nodup) (hE : (E.map Prod.fst).Perm L) : L.Pairwise fun a b => digS a ≠ digS b := by
  refine nodup_pair ((hE.map digS).nodup_iff.1 ?_)
  rw [List.map_map]
  exact hn
theorem ent_filter (E : Ents) (h : List Nat) : delK (E.map entD) h = (E.filter fun p : Sta × Nat => decide (digS p.1 ≠ h)).map entD := by
  unfold delK
  rw [List.filter_map]
  rfl
theorem ent_put {E : Ents} {x : Sta} {b : Nat} (hn : Km.look (E.map entD) (digS x) = none) : putK (E.map entD) (digS x) b = (E ++ [(x, b)]).map entD := by
  unfold putK
  rw [hn, List.map_append]
  rfl
theorem fst_filter {E : Ents} {L : List Sta} (h : List Nat) (hE : (E.map Prod.fst).Perm L) : ((E.filter fun p : Sta × Nat => decide (digS p.1 ≠ h)).map Prod.fst).Perm (L.filter fun y => decide (digS y ≠ h)) := by
  have := hE.filter fun y => decide (digS y ≠ h)
  rw [List.filter_map] at this
  exact this
theorem no_has {E : Ents} {L : List Sta} {h : List Nat} (hE : (E.map Prod.fst).Perm L) (hn : ¬ hasB h L = true) : ∀ p ∈ E, digS p.1 ≠ h := fun p hp e => hn (has_true.2 ⟨p.1, hE.mem_iff.1 (List.mem_map.2 ⟨p, hp, rfl⟩), e⟩)
theorem in_has {E : Ents} {L : List Sta} {h : List Nat} (hE : (E.map Prod.fst).Perm L) (hh : hasB h L = true) : ∃ p ∈ E, digS p.1 = h := by
  obtain ⟨y, hy, e⟩ := has_true.1 hh
  obtain ⟨p, hp, rfl⟩ := List.mem_map.1 (hE.mem_iff.2 hy)
  exact ⟨p, hp, e⟩
/-- Of two whose keys are the same the digests are. -/
theorem vK_dig {x y : Sta} (kx : x.Ok) (ky : y.Ok) (e : vK y = vK x) : digS y = digS x := congrArg Ky.hash (Od.kval_inj (keyN_ok ky) (keyN_ok kx) e)
theorem laid_new {r : Nat} {pin : Option (List Nat)} {L : List Sta} (k : SOk vK digS r pin L) {x : Sta} (hn : ¬ has digS (digS x) L) (kx : x.Ok) (kL : ∀ y ∈ L, y.Ok) : SLaid vK digS r pin (ins vK x L) :=
  ⟨ins_rise k.up fun y hy e => hn ⟨y, hy, vK_dig kx (kL y hy) e⟩, dg_ins k.dg hn, by rw [ins_len]; have := k.len; omega, k.two, fun p hp => by obtain ⟨z, hz, e⟩ := k.pin p hp; exact ⟨z, ins_mem.2 (.inr hz), e⟩⟩
theorem put_in {r : Nat} {pin : Option (List Nat)} {x : Sta} {L : List Sta} (h : hasB (digS x) L = true) : putL r pin x L = (L, none) := if_pos h
theorem put_room {r : Nat} {pin : Option (List Nat)} {x : Sta} {L : List Sta} (h : ¬ hasB (digS x) L = true) (hl : (ins vK x L).length ≤ r) : putL r pin x L = (ins vK x L, none) := by
  unfold putL
  rw [if_neg h, less_room hl]
theorem put_full {r : Nat} {pin : Option (List Nat)} {x : Sta} {L : List Sta} (h : ¬ hasB (digS x) L = true) (hl : ¬ (ins vK x L).length ≤ r) {g : Sta} (hg : (ins vK x L)[out digS pin (ins vK x L)]? = some g) : putL r pin x L = ((ins vK x L).eraseIdx (out digS pin (ins vK x L)), some g) := by
  unfold putL less
  rw [if_neg h, if_neg hl, hg]
theorem out_if {pin : Option (List Nat)} {L : List Sta} {x0 x1 g : Sta} (h0 : L[0]? = some x0) (h1 : L[1]? = some x1) (hg : L[out digS pin L]? = some g) : (if pin = some (digS x0) then digS x1 else digS x0) = digS g := by
  have e0 : (L.map digS)[0]? = some (digS x0) := by rw [List.getElem?_map, h0]; rfl
  unfold out at hg
  rw [e0] at hg
  by_cases c : pin = some (digS x0)
  · rw [if_pos c] at hg ⊢
    rw [h1] at hg
    rw [Option.some.inj hg]
  · rw [if_neg c] at hg ⊢
    rw [h0] at hg
    rw [Option.some.inj hg]
structure SPutPost (w : World) (F : Nat → Prop) (S r mb : Nat) (pin : Option (List Nat)) (q : List Sta × Option Sta) (e : Ending) (w' : World) : Prop where
  ret : e = .returned (.tuple #[.agg (u8s ((q.2.map digS).getD zh)).toArray, .bool q.2.isSome])
  at_ : ∃ F' E', SAt w' F' S r mb pin E' ∧ (E'.map Prod.fst).Perm q.1 ∧ Grew F F' w.heap.size
  chg : Chg F w w'
set_option maxHeartbeats 4000000 in
set_option maxRecDepth 100000 in
theorem sput_any (F : Nat → Prop) (S r mb : Nat) (pin : Option (List Nat)) (E : Ents) (L : List Sta) (x : Sta) (w : World) (hS : SAt w F S r mb pin E) (kx : x.Ok) (hL : Rise vK L) (hE : (E.map Prod.fst).Perm L) (kL : ∀ y ∈ L, y.Ok) (hl : L.length ≤ r) (hr : 2 ≤ r ∧ r ≤ 100) :
    Calls Tryd.prog 23 #[.pointer (some ⟨S, 0, none⟩), .agg (u8s (digS x)).toArray, .agg (scs x).toArray] w (SPutPost w F S r mb pin (putL r pin x L)) := by
  have KH := Lib.hid (digS_ok x)
  have HH : Hid (hashOk (digS x)) := Lib.hid (digS_ok x).len
  have KX := Lib.hid kx
  have hrow := hS.row
  have hmap := hS.map
  by_cases hb : hasB (digS x) L = true
  · obtain ⟨⟨x', b⟩, hx, hd⟩ := in_has hE hb
    have HV : Hid ((if true = true then Value.tuple #[((Km.look (E.map entD) (digS x)).map ptrV).getD (.pointer none), .bool (Km.look (E.map entD) (digS x)).isSome] else ((Km.look (E.map entD) (digS x)).map ptrV).getD (.pointer none)) = .tuple #[.pointer (some ⟨b, 0, none⟩), .bool true]) := Lib.hid (by rw [(show Km.look (E.map entD) (digS x) = some b by rw [← hd]; exact look_ent (ent_nodup hS) hx)]; rfl)
    have HQ := Lib.hid (put_in (r := r) (pin := pin) hb)
    have HE := Lib.hid hE
    rw [HQ.out]
    clear hb hL hE kL hl hr hx hd kx
    have LI := Lib.hid hS.lies
    go_enter Tryd.func23, Tryd.ntmps23
    have bel0 : Chg (fun _ => False) w w := Chg.refl _ _
    go_wp2_with (first
      | ((with_reducible refine at_slot 4 ?_); (refine arm_box (o := ⟨some 4, _, _, _, _, _⟩) rfl _ _ rfl (u8s (digS x)) rfl ?_); intro H v1 He hv1 nv1; try simp only [Act.put, List.setIfInBounds_toArray, List.set_cons_zero, List.set_cons_succ])
      | ((with_reducible refine at_slot 5 ?_); (refine arm_box (o := ⟨some 5, _, _, _, _, _⟩) rfl _ _ rfl (scs x) rfl ?_); intro X v2 Xe hv2 nv2; try simp only [Act.put, List.setIfInBounds_toArray, List.set_cons_zero, List.set_cons_succ])
      | ((with_reducible refine at_slot 6 ?_); (refine arm_alloc (o := ⟨some 6, _, _, _, _, _⟩) rfl _ rfl (u8s zh) zH ?_); intro R v3 Re hv3 nv3; try simp only [Act.put, List.setIfInBounds_toArray, List.set_cons_zero, List.set_cons_succ]))
    have hbv1 := nv1.below
    have rrv1 : Row v1 H 29 (u8s (digS x)) := hv1
    have hbv2 := nv2.below
    have rrv2 : Row v2 X 41 (scs x) := hv2
    have hbv3 := nv3.below
    have rrv3 : Row v3 R 29 (u8s zh) := hv3
    have geH : w.heap.size ≤ H := by have := He.out; have := bel0.size; omega
    have lHx : w.heap.size ≤ H := by have := He.out; omega
    clear hv1 nv1 He
    have S_4 : Row v1 S 67 (pcs r mb pin) := hrow.old hbv1
    have M_4 : PMap v1 mb E := hmap.old hbv1
    have A_4 : SAt v1 F S r mb pin E := hS.old hbv1
    have bel_4 : Chg (fun _ => False) w v1 := bel0.old hbv1
    clear hrow hmap hS bel0 hbv1
    have geX : w.heap.size ≤ X := by have := Xe.out; have := bel_4.size; omega
    have ltHX : H < X := by have := Xe.out; have := rrv1.lt; omega
    have lXx : v1.heap.size ≤ X := by have := Xe.out; omega
    clear hv2 nv2 Xe
    have S_5 : Row v2 S 67 (pcs r mb pin) := S_4.old hbv2
    have M_5 : PMap v2 mb E := M_4.old hbv2
    have A_5 : SAt v2 F S r mb pin E := A_4.old hbv2
    have H_5 : Row v2 H 29 (u8s (digS x)) := rrv1.old hbv2
    have bel_5 : Chg (fun _ => False) w v2 := bel_4.old hbv2
    clear S_4 M_4 A_4 rrv1 bel_4 hbv2
    have geR : w.heap.size ≤ R := by have := Re.out; have := bel_5.size; omega
    have ltXR : X < R := by have := Re.out; have := rrv2.lt; omega
    have lRx : v2.heap.size ≤ R := by have := Re.out; omega
    clear hv3 nv3 Re
    have S_6 : Row v3 S 67 (pcs r mb pin) := S_5.old hbv3
    have M_6 : PMap v3 mb E := M_5.old hbv3
    have A_6 : SAt v3 F S r mb pin E := A_5.old hbv3
    have H_6 : Row v3 H 29 (u8s (digS x)) := H_5.old hbv3
    have X_6 : Row v3 X 41 (scs x) := rrv2.old hbv3
    have bel_6 : Chg (fun _ => False) w v3 := bel_5.old hbv3
    clear S_5 M_5 A_5 H_5 rrv2 bel_5 hbv3
    refine wp_region_held (S := fun w' => Row w' S 67 (pcs r mb pin) ∧ PMap w' mb E ∧ Row w' H 29 (u8s (digS x)) ∧ True) (by kernel_rfl) ?_
    change wpAnyH _ _ _ _ _ _ _ _ v3.drew
    have hd7 : Below v3.heap.size v3 v3.drew := (Below.refl _ _).drew
    have S_8 : Row v3.drew S 67 (pcs r mb pin) := S_6.old hd7
    have M_8 : PMap v3.drew mb E := M_6.old hd7
    have A_8 : SAt v3.drew F S r mb pin E := A_6.old hd7
    have H_8 : Row v3.drew H 29 (u8s (digS x)) := H_6.old hd7
    have X_8 : Row v3.drew X 41 (scs x) := X_6.old hd7
    have R_8 : Row v3.drew R 29 (u8s zh) := rrv3.old hd7
    have bel_8 : Chg (fun _ => False) w v3.drew := bel_6.old hd7
    clear S_6 M_6 A_6 H_6 X_6 rrv3 bel_6 hd7
    generalize v3.drew = yz7 at S_8 M_8 A_8 H_8 X_8 R_8 bel_8 ⊢
    refine h_take 0 (.pointer (some ⟨S, 0, none⟩)) rfl 12 rfl (by kernel_rfl) (by kernel_rfl) (by kernel_rfl) (by kernel_rfl) (fun _ _ _ h => h) (fun w' _ => by kernel_rfl) ⟨S_8, M_8, H_8, trivial⟩ ?_
    simp only [Act.put, List.setIfInBounds_toArray, List.set_cons_zero, List.set_cons_succ]
    refine h_take 1 (.pointer (some ⟨S, 0, none⟩)) rfl 13 rfl (by kernel_rfl) (by kernel_rfl) (by kernel_rfl) (by kernel_rfl) (fun _ _ _ h => h) (fun w' _ => by kernel_rfl) ⟨S_8, M_8, H_8, trivial⟩ ?_
    simp only [Act.put, List.setIfInBounds_toArray, List.set_cons_zero, List.set_cons_succ]
    refine h_take 2 (.pointer (some ⟨S, 1, none⟩)) rfl 14 rfl (by kernel_rfl) (by kernel_rfl) (by kernel_rfl) (by kernel_rfl) (fun _ _ _ h => h) (fun w' _ => by kernel_rfl) ⟨S_8, M_8, H_8, trivial⟩ ?_
    simp only [Act.put, List.setIfInBounds_toArray, List.set_cons_zero, List.set_cons_succ]
    refine h_take 3 (.map (some mb)) rfl 15 rfl (by kernel_rfl) (by kernel_rfl) (by kernel_rfl) (by kernel_rfl) (fun _ _ _ h => h) (fun w' hw => run_op_load1 _ _ rfl (.map 29 71) und_map rfl ⟨S, 1, none⟩ rfl (.map (some mb)) (hw.1.cell (i := 1) rfl)) ⟨S_8, M_8, H_8, trivial⟩ ?_
    simp only [Act.put, List.setIfInBounds_toArray, List.set_cons_zero, List.set_cons_succ]
    refine h_take 4 (.agg (u8s (digS x)).toArray) rfl 16 rfl (by kernel_rfl) (by kernel_rfl) (by kernel_rfl) (by kernel_rfl) (fun _ _ _ h => h) (fun w' hw => run_op_load _ _ rfl H (0) rfl (u8s (digS x)) (((Has.refl _)).range hw.2.2.1) ((szH KH.out))) ⟨S_8, M_8, H_8, trivial⟩ ?_
    simp only [Act.put, List.setIfInBounds_toArray, List.set_cons_zero, List.set_cons_succ]
    refine h_take 5 (.tuple #[.pointer (some ⟨b, 0, none⟩), .bool true]) rfl 17 rfl (by kernel_rfl) (by kernel_rfl) (by kernel_rfl) (by kernel_rfl) (fun _ _ _ h => h) (fun w' hw => by rw [← HV.out]; exact run_op_lookupK _ _ _ true rfl rfl (digS x) HH.out rfl hw.2.1 hash_keys und_map _ (zero_ptr _)) ⟨S_8, M_8, H_8, trivial⟩ ?_
    simp only [Act.put, List.setIfInBounds_toArray, List.set_cons_zero, List.set_cons_succ]
    refine h_take 6 (.tuple #[.pointer (some ⟨b, 0, none⟩), .bool true]) rfl 11 rfl (by kernel_rfl) (by kernel_rfl) (by kernel_rfl) (by kernel_rfl) (fun _ _ _ h => h) (fun w' _ => by kernel_rfl) ⟨S_8, M_8, H_8, trivial⟩ ?_
    simp only [Act.put, List.setIfInBounds_toArray, List.set_cons_zero, List.set_cons_succ]
    refine h_take 7 (.pointer (some ⟨b, 0, none⟩)) rfl 18 rfl (by kernel_rfl) (by kernel_rfl) (by kernel_rfl) (by kernel_rfl) (fun _ _ _ h => h) (fun w' _ => by kernel_rfl) ⟨S_8, M_8, H_8, trivial⟩ ?_
    simp only [Act.put, List.setIfInBounds_toArray, List.set_cons_zero, List.set_cons_succ]
    refine h_take 8 (.bool true) rfl 19 rfl (by kernel_rfl) (by kernel_rfl) (by kernel_rfl) (by kernel_rfl) (fun _ _ _ h => h) (fun w' _ => by kernel_rfl) ⟨S_8, M_8, H_8, trivial⟩ ?_
    simp only [Act.put, List.setIfInBounds_toArray, List.set_cons_zero, List.set_cons_succ]
    refine h_take 9 (.pointer (some ⟨b, 0, none⟩)) rfl 8 rfl (by kernel_rfl) (by kernel_rfl) (by kernel_rfl) (by kernel_rfl) (fun _ _ _ h => h) (fun w' _ => by kernel_rfl) ⟨S_8, M_8, H_8, trivial⟩ ?_
    simp only [Act.put, List.setIfInBounds_toArray, List.set_cons_zero, List.set_cons_succ]
    refine h_take 10 (.bool true) rfl 9 rfl (by kernel_rfl) (by kernel_rfl) (by kernel_rfl) (by kernel_rfl) (fun _ _ _ h => h) (fun w' _ => by kernel_rfl) ⟨S_8, M_8, H_8, trivial⟩ ?_
    simp only [Act.put, List.setIfInBounds_toArray, List.set_cons_zero, List.set_cons_succ]
    refine wpAnyH_done (by kernel_rfl) ?_ _
    go_wp2_with (first
      | ((with_reducible refine at_slot 21 ?_); (refine arm_build (o := ⟨some 21, _, _, _, _, _⟩) rfl _ _ rfl (u8s zh) (by kernel_rfl) ?_); try simp only [Act.put, List.setIfInBounds_toArray, List.set_cons_zero, List.set_cons_succ])
      | ((with_reducible refine arm_store (o := ⟨none, _, _, _, _, _⟩) rfl _ _ _ rfl R 0 rfl (u8s zh) rfl _ _ (R_8) (fitH zh_ok) (u8s_one _) (szH zh_ok) ?_); intro y8 hy8 oy8 sy8; try simp only [Act.put, List.setIfInBounds_toArray, List.set_cons_zero, List.set_cons_succ]))
    have hc8 := bel_8.new oy8 geR
    have hA8 := A_8.chg (Chg.of_only (F := fun k => k = R) oy8 rfl) (fun k hk hf => by subst hk; exact Nat.lt_irrefl _ (Nat.lt_of_lt_of_le (LI.out _ hf) geR))
    exact bodyPost_ret (result_row2 (p := 6) (u := 7) (ty := 29) (t := 29) (by kernel_rfl) _ _ R (u8s zh) (.bool false) rfl rfl (hy8.congr (allH zh_ok)) (szH zh_ok)) rfl ⟨rfl, ⟨F, E, hA8, HE.out, Grew.refl _ _⟩, hc8.more (fun k hk => hk.elim)⟩
  · have hno := no_has hE hb
    have hlk := look_no hno
    have HV : Hid ((if true = true then Value.tuple #[((Km.look (E.map entD) (digS x)).map ptrV).getD (.pointer none), .bool (Km.look (E.map entD) (digS x)).isSome] else ((Km.look (E.map entD) (digS x)).map ptrV).getD (.pointer none)) = .tuple #[.pointer none, .bool false]) := Lib.hid (by rw [hlk]; rfl)
    have HPE := Lib.hid (fun b : Nat => ent_put (x := x) (b := b) hlk)
    have hp1 := ins_perm x L
    have hil := ins_len (v := vK) x L
    have hnx : ∀ y ∈ L, vK y ≠ vK x := fun y hy e => hb (has_true.2 ⟨y, hy, vK_dig kx (kL y hy) e⟩)
    have hL1 : Rise vK (ins vK x L) := ins_rise hL hnx
    have HE1 : Hid (∀ X, ((E ++ [(x, X)]).map Prod.fst).Perm (ins vK x L)) := Lib.hid fun X => by
      rw [List.map_append]
      exact ((hE.append_right _).trans List.perm_append_comm).trans hp1.symm
    have HN1 : Hid (∀ X, ((E ++ [(x, X)]).map entD).length = L.length + 1) := Lib.hid fun X => by
      rw [List.length_map, List.length_append, ← List.length_map (f := Prod.fst), hE.length_eq]; rfl
    have hst := hS.st
    have NS : Hid (∀ p ∈ E, p.2 ≠ mb) := Lib.hid fun p hp => st_ne_m hS hp
    have OK := Lib.hid hS.ok
    have HP := Lib.hid hS.pok
    have fS := hS.fS
    have fm := hS.fm
    have fE := Lib.hid hS.fE
    have LI := Lib.hid hS.lies
    have nSm := S_ne_m hS
    clear hS hno hlk hp1 hnx
    by_cases hf : (ins vK x L).length ≤ r
    · have HQ := Lib.hid (put_room (pin := pin) hb hf)
      rw [HQ.out]
      have d1 : decide (((L.length + 1 : Nat) : Int) ≤ (r : Int)) = true := decide_eq_true (by omega)
      clear hb hf hil hL1 hL hE kL hl hr kx
      go_enter Tryd.func23, Tryd.ntmps23
      have bel0 : Chg F w w := Chg.refl _ _
      go_wp2_with (first
        | ((with_reducible refine at_slot 4 ?_); (refine arm_box (o := ⟨some 4, _, _, _, _, _⟩) rfl _ _ rfl (u8s (digS x)) rfl ?_); intro H v1 He hv1 nv1; try simp only [Act.put, List.setIfInBounds_toArray, List.set_cons_zero, List.set_cons_succ])
        | ((with_reducible refine at_slot 5 ?_); (refine arm_box (o := ⟨some 5, _, _, _, _, _⟩) rfl _ _ rfl (scs x) rfl ?_); intro X v2 Xe hv2 nv2; try simp only [Act.put, List.setIfInBounds_toArray, List.set_cons_zero, List.set_cons_succ])
        | ((with_reducible refine at_slot 6 ?_); (refine arm_alloc (o := ⟨some 6, _, _, _, _, _⟩) rfl _ rfl (u8s zh) zH ?_); intro R v3 Re hv3 nv3; try simp only [Act.put, List.setIfInBounds_toArray, List.set_cons_zero, List.set_cons_succ]))
      have hbv1 := nv1.below
      have rrv1 : Row v1 H 29 (u8s (digS x)) := hv1
      have hbv2 := nv2.below
      have rrv2 : Row v2 X 41 (scs x) := hv2
      have hbv3 := nv3.below
      have rrv3 : Row v3 R 29 (u8s zh) := hv3
      have geH : w.heap.size ≤ H := by have := He.out; have := bel0.size; omega
      have lHx : w.heap.size ≤ H := by have := He.out; omega
      clear hv1 nv1 He
      have S_4 : Row v1 S 67 (pcs r mb pin) := hrow.old hbv1
      have M_4 : PMap v1 mb E := hmap.old hbv1
      have T_4 : ∀ p ∈ E, Row v1 p.2 41 (scs p.1) := fun p hp => (hst p hp).old hbv1
      have bel_4 : Chg F w v1 := bel0.old hbv1
      clear hrow hmap hst bel0 hbv1
      have geX : w.heap.size ≤ X := by have := Xe.out; have := bel_4.size; omega
      have ltHX : H < X := by have := Xe.out; have := rrv1.lt; omega
      have lXx : v1.heap.size ≤ X := by have := Xe.out; omega
      clear hv2 nv2 Xe
      have S_5 : Row v2 S 67 (pcs r mb pin) := S_4.old hbv2
      have M_5 : PMap v2 mb E := M_4.old hbv2
      have T_5 : ∀ p ∈ E, Row v2 p.2 41 (scs p.1) := fun p hp => (T_4 p hp).old hbv2
      have H_5 : Row v2 H 29 (u8s (digS x)) := rrv1.old hbv2
      have bel_5 : Chg F w v2 := bel_4.old hbv2
      clear S_4 M_4 T_4 rrv1 bel_4 hbv2
      have geR : w.heap.size ≤ R := by have := Re.out; have := bel_5.size; omega
      have ltXR : X < R := by have := Re.out; have := rrv2.lt; omega
      have lRx : v2.heap.size ≤ R := by have := Re.out; omega
      clear hv3 nv3 Re
      have S_6 : Row v3 S 67 (pcs r mb pin) := S_5.old hbv3
      have M_6 : PMap v3 mb E := M_5.old hbv3
      have T_6 : ∀ p ∈ E, Row v3 p.2 41 (scs p.1) := fun p hp => (T_5 p hp).old hbv3
      have H_6 : Row v3 H 29 (u8s (digS x)) := H_5.old hbv3
      have X_6 : Row v3 X 41 (scs x) := rrv2.old hbv3
      have bel_6 : Chg F w v3 := bel_5.old hbv3
      clear S_5 M_5 T_5 H_5 rrv2 bel_5 hbv3
      refine wp_region_held (S := fun w' => Row w' S 67 (pcs r mb pin) ∧ PMap w' mb E ∧ Row w' H 29 (u8s (digS x)) ∧ True) (by kernel_rfl) ?_
      change wpAnyH _ _ _ _ _ _ _ _ v3.drew
      have hd7 : Below v3.heap.size v3 v3.drew := (Below.refl _ _).drew
      have S_8 : Row v3.drew S 67 (pcs r mb pin) := S_6.old hd7
      have M_8 : PMap v3.drew mb E := M_6.old hd7
      have T_8 : ∀ p ∈ E, Row v3.drew p.2 41 (scs p.1) := fun p hp => (T_6 p hp).old hd7
      have H_8 : Row v3.drew H 29 (u8s (digS x)) := H_6.old hd7
      have X_8 : Row v3.drew X 41 (scs x) := X_6.old hd7
      have R_8 : Row v3.drew R 29 (u8s zh) := rrv3.old hd7
      have bel_8 : Chg F w v3.drew := bel_6.old hd7
      clear S_6 M_6 T_6 H_6 X_6 rrv3 bel_6 hd7
      generalize v3.drew = yz7 at S_8 M_8 T_8 H_8 X_8 R_8 bel_8 ⊢
      refine h_take 0 (.pointer (some ⟨S, 0, none⟩)) rfl 12 rfl (by kernel_rfl) (by kernel_rfl) (by kernel_rfl) (by kernel_rfl) (fun _ _ _ h => h) (fun w' _ => by kernel_rfl) ⟨S_8, M_8, H_8, trivial⟩ ?_
      simp only [Act.put, List.setIfInBounds_toArray, List.set_cons_zero, List.set_cons_succ]
      refine h_take 1 (.pointer (some ⟨S, 0, none⟩)) rfl 13 rfl (by kernel_rfl) (by kernel_rfl) (by kernel_rfl) (by kernel_rfl) (fun _ _ _ h => h) (fun w' _ => by kernel_rfl) ⟨S_8, M_8, H_8, trivial⟩ ?_
      simp only [Act.put, List.setIfInBounds_toArray, List.set_cons_zero, List.set_cons_succ]
      refine h_take 2 (.pointer (some ⟨S, 1, none⟩)) rfl 14 rfl (by kernel_rfl) (by kernel_rfl) (by kernel_rfl) (by kernel_rfl) (fun _ _ _ h => h) (fun w' _ => by kernel_rfl) ⟨S_8, M_8, H_8, trivial⟩ ?_
      simp only [Act.put, List.setIfInBounds_toArray, List.set_cons_zero, List.set_cons_succ]
      refine h_take 3 (.map (some mb)) rfl 15 rfl (by kernel_rfl) (by kernel_rfl) (by kernel_rfl) (by kernel_rfl) (fun _ _ _ h => h) (fun w' hw => run_op_load1 _ _ rfl (.map 29 71) und_map rfl ⟨S, 1, none⟩ rfl (.map (some mb)) (hw.1.cell (i := 1) rfl)) ⟨S_8, M_8, H_8, trivial⟩ ?_
      simp only [Act.put, List.setIfInBounds_toArray, List.set_cons_zero, List.set_cons_succ]
      refine h_take 4 (.agg (u8s (digS x)).toArray) rfl 16 rfl (by kernel_rfl) (by kernel_rfl) (by kernel_rfl) (by kernel_rfl) (fun _ _ _ h => h) (fun w' hw => run_op_load _ _ rfl H (0) rfl (u8s (digS x)) (((Has.refl _)).range hw.2.2.1) ((szH KH.out))) ⟨S_8, M_8, H_8, trivial⟩ ?_
      simp only [Act.put, List.setIfInBounds_toArray, List.set_cons_zero, List.set_cons_succ]
      refine h_take 5 (.tuple #[.pointer none, .bool false]) rfl 17 rfl (by kernel_rfl) (by kernel_rfl) (by kernel_rfl) (by kernel_rfl) (fun _ _ _ h => h) (fun w' hw => by rw [← HV.out]; exact run_op_lookupK _ _ _ true rfl rfl (digS x) HH.out rfl hw.2.1 hash_keys und_map _ (zero_ptr _)) ⟨S_8, M_8, H_8, trivial⟩ ?_
      simp only [Act.put, List.setIfInBounds_toArray, List.set_cons_zero, List.set_cons_succ]
      refine h_take 6 (.tuple #[.pointer none, .bool false]) rfl 11 rfl (by kernel_rfl) (by kernel_rfl) (by kernel_rfl) (by kernel_rfl) (fun _ _ _ h => h) (fun w' _ => by kernel_rfl) ⟨S_8, M_8, H_8, trivial⟩ ?_
      simp only [Act.put, List.setIfInBounds_toArray, List.set_cons_zero, List.set_cons_succ]
      refine h_take 7 (.pointer none) rfl 18 rfl (by kernel_rfl) (by kernel_rfl) (by kernel_rfl) (by kernel_rfl) (fun _ _ _ h => h) (fun w' _ => by kernel_rfl) ⟨S_8, M_8, H_8, trivial⟩ ?_
      simp only [Act.put, List.setIfInBounds_toArray, List.set_cons_zero, List.set_cons_succ]
      refine h_take 8 (.bool false) rfl 19 rfl (by kernel_rfl) (by kernel_rfl) (by kernel_rfl) (by kernel_rfl) (fun _ _ _ h => h) (fun w' _ => by kernel_rfl) ⟨S_8, M_8, H_8, trivial⟩ ?_
      simp only [Act.put, List.setIfInBounds_toArray, List.set_cons_zero, List.set_cons_succ]
      refine h_take 9 (.pointer none) rfl 8 rfl (by kernel_rfl) (by kernel_rfl) (by kernel_rfl) (by kernel_rfl) (fun _ _ _ h => h) (fun w' _ => by kernel_rfl) ⟨S_8, M_8, H_8, trivial⟩ ?_
      simp only [Act.put, List.setIfInBounds_toArray, List.set_cons_zero, List.set_cons_succ]
      refine h_take 10 (.bool false) rfl 9 rfl (by kernel_rfl) (by kernel_rfl) (by kernel_rfl) (by kernel_rfl) (fun _ _ _ h => h) (fun w' _ => by kernel_rfl) ⟨S_8, M_8, H_8, trivial⟩ ?_
      simp only [Act.put, List.setIfInBounds_toArray, List.set_cons_zero, List.set_cons_succ]
      refine wpAnyH_done (by kernel_rfl) ?_ _
      go_wp2_with fail
      have nHm : H ≠ mb := (M_8.row H_8).symm
      have nXm : X ≠ mb := (M_8.row X_8).symm
      have nRm : R ≠ mb := (M_8.row R_8).symm
      refine wp_region_held (S := fun w' => Row w' S 67 (pcs r mb pin) ∧ Row w' H 29 (u8s (digS x)) ∧ True) (by kernel_rfl) ?_
      change wpAnyH _ _ _ _ _ _ _ _ yz7.drew
      have hd9 : Below yz7.heap.size yz7 yz7.drew := (Below.refl _ _).drew
      have S_10 : Row yz7.drew S 67 (pcs r mb pin) := S_8.old hd9
      have M_10 : PMap yz7.drew mb E := M_8.old hd9
      have T_10 : ∀ p ∈ E, Row yz7.drew p.2 41 (scs p.1) := fun p hp => (T_8 p hp).old hd9
      have H_10 : Row yz7.drew H 29 (u8s (digS x)) := H_8.old hd9
      have X_10 : Row yz7.drew X 41 (scs x) := X_8.old hd9
      have R_10 : Row yz7.drew R 29 (u8s zh) := R_8.old hd9
      have bel_10 : Chg F w yz7.drew := bel_8.old hd9
      clear S_8 M_8 T_8 H_8 X_8 R_8 bel_8 hd9
      generalize yz7.drew = yz9 at S_10 M_10 T_10 H_10 X_10 R_10 bel_10 ⊢
      refine h_take 0 (.pointer (some ⟨S, 0, none⟩)) rfl 22 rfl (by kernel_rfl) (by kernel_rfl) (by kernel_rfl) (by kernel_rfl) (fun _ _ _ h => h) (fun w' _ => by kernel_rfl) ⟨S_10, H_10, trivial⟩ ?_
      simp only [Act.put, List.setIfInBounds_toArray, List.set_cons_zero, List.set_cons_succ]
      refine h_take 1 (.pointer (some ⟨S, 0, none⟩)) rfl 23 rfl (by kernel_rfl) (by kernel_rfl) (by kernel_rfl) (by kernel_rfl) (fun _ _ _ h => h) (fun w' _ => by kernel_rfl) ⟨S_10, H_10, trivial⟩ ?_
      simp only [Act.put, List.setIfInBounds_toArray, List.set_cons_zero, List.set_cons_succ]
      refine h_take 2 (.pointer (some ⟨S, 1, none⟩)) rfl 24 rfl (by kernel_rfl) (by kernel_rfl) (by kernel_rfl) (by kernel_rfl) (fun _ _ _ h => h) (fun w' _ => by kernel_rfl) ⟨S_10, H_10, trivial⟩ ?_
      simp only [Act.put, List.setIfInBounds_toArray, List.set_cons_zero, List.set_cons_succ]
      refine h_take 3 (.map (some mb)) rfl 25 rfl (by kernel_rfl) (by kernel_rfl) (by kernel_rfl) (by kernel_rfl) (fun _ _ _ h => h) (fun w' hw => run_op_load1 _ _ rfl (.map 29 71) und_map rfl ⟨S, 1, none⟩ rfl (.map (some mb)) (hw.1.cell (i := 1) rfl)) ⟨S_10, H_10, trivial⟩ ?_
      simp only [Act.put, List.setIfInBounds_toArray, List.set_cons_zero, List.set_cons_succ]
      refine h_take 4 (.agg (u8s (digS x)).toArray) rfl 26 rfl (by kernel_rfl) (by kernel_rfl) (by kernel_rfl) (by kernel_rfl) (fun _ _ _ h => h) (fun w' hw => run_op_load _ _ rfl H (0) rfl (u8s (digS x)) (((Has.refl _)).range hw.2.1) ((szH KH.out))) ⟨S_10, H_10, trivial⟩ ?_
      simp only [Act.put, List.setIfInBounds_toArray, List.set_cons_zero, List.set_cons_succ]
      refine h_one (i := 5) (by kernel_rfl) (o_updateK rfl rfl (by kernel_rfl) _ _ _ _ rfl rfl (digS x) HH.out rfl X rfl M_10 hash_keys und_map ?_)
      intro yU hMU oU sU
      rw [HPE.out X] at hMU
      have S_11 : Row yU S 67 (pcs r mb pin) := S_10.only oU nSm
      have M_11 : PMap yU mb (E ++ [(x, X)]) := hMU
      have T_11 : ∀ p ∈ E, Row yU p.2 41 (scs p.1) := fun p hp => (T_10 p hp).only oU ((fun p hp => NS.out p hp) p hp)
      have H_11 : Row yU H 29 (u8s (digS x)) := H_10.only oU nHm
      have X_11 : Row yU X 41 (scs x) := X_10.only oU nXm
      have R_11 : Row yU R 29 (u8s zh) := R_10.only oU nRm
      have bel_11 : Chg F w yU := bel_10.only oU (fm)
      clear S_10 M_10 T_10 H_10 X_10 R_10 bel_10 oU
      refine ⟨⟨S_11, H_11, trivial⟩, ?_⟩
      refine wpAnyH_done (by kernel_rfl) ?_ _
      have hA1 : SAt yU (fun k => F k ∨ k = X) S r mb pin (E ++ [(x, X)]) := by
        refine ⟨S_11, M_11, fun p hp => ?_, fun p hp => ?_, HP.out, .inl fS, .inl fm, fun p hp => ?_, fun k hk => ?_⟩
        · rcases List.mem_append.1 hp with hp | hp
          · exact T_11 p hp
          · rw [List.mem_singleton.1 hp]; exact X_11
        · rcases List.mem_append.1 hp with hp | hp
          · exact OK.out p hp
          · rw [List.mem_singleton.1 hp]; exact KX.out
        · rcases List.mem_append.1 hp with hp | hp
          · exact .inl (fE.out p hp)
          · rw [List.mem_singleton.1 hp]; exact .inr rfl
        · rcases hk with hk | rfl
          · exact Nat.lt_of_lt_of_le (LI.out k hk) bel_11.size
          · exact X_11.lt
      have GR : Hid (Grew F (fun k => F k ∨ k = X) w.heap.size) := Lib.hid (fun k hk => hk.imp id (fun e => by rw [e]; exact geX))
      have nRF : Hid (¬ (F R ∨ R = X)) := Lib.hid (fun h => h.elim (fun q => Nat.lt_irrefl _ (Nat.lt_of_lt_of_le (LI.out _ q) geR)) (fun e => by have := ltXR; omega))
      clear M_11
      clear T_11
      clear X_11
      clear H_11
      go_wp2_with fail
      have hM1 := hA1.map
      refine wp_region_held (S := fun w' => Row w' S 67 (pcs r mb pin) ∧ PMap w' mb (E ++ [(x, X)]) ∧ True) (by kernel_rfl) ?_
      change wpAnyH _ _ _ _ _ _ _ _ yU.drew
      have hd12 : Below yU.heap.size yU yU.drew := (Below.refl _ _).drew
      have S_13 : Row yU.drew S 67 (pcs r mb pin) := S_11.old hd12
      have R_13 : Row yU.drew R 29 (u8s zh) := R_11.old hd12
      have A_13 : SAt yU.drew (fun k => F k ∨ k = X) S r mb pin (E ++ [(x, X)]) := hA1.old hd12
      have M_13 : PMap yU.drew mb (E ++ [(x, X)]) := hM1.old hd12
      have bel_13 : Chg F w yU.drew := bel_11.old hd12
      clear S_11 R_11 hA1 hM1 bel_11 hd12
      generalize yU.drew = yz12 at S_13 R_13 A_13 M_13 bel_13 ⊢
      refine h_take 0 (.pointer (some ⟨S, 0, none⟩)) rfl 27 rfl (by kernel_rfl) (by kernel_rfl) (by kernel_rfl) (by kernel_rfl) (fun _ _ _ h => h) (fun w' _ => by kernel_rfl) ⟨S_13, M_13, trivial⟩ ?_
      simp only [Act.put, List.setIfInBounds_toArray, List.set_cons_zero, List.set_cons_succ]
      refine h_take 1 (.pointer (some ⟨S, 0, none⟩)) rfl 28 rfl (by kernel_rfl) (by kernel_rfl) (by kernel_rfl) (by kernel_rfl) (fun _ _ _ h => h) (fun w' _ => by kernel_rfl) ⟨S_13, M_13, trivial⟩ ?_
      simp only [Act.put, List.setIfInBounds_toArray, List.set_cons_zero, List.set_cons_succ]
      refine h_take 2 (.pointer (some ⟨S, 1, none⟩)) rfl 29 rfl (by kernel_rfl) (by kernel_rfl) (by kernel_rfl) (by kernel_rfl) (fun _ _ _ h => h) (fun w' _ => by kernel_rfl) ⟨S_13, M_13, trivial⟩ ?_
      simp only [Act.put, List.setIfInBounds_toArray, List.set_cons_zero, List.set_cons_succ]
      refine h_take 3 (.map (some mb)) rfl 30 rfl (by kernel_rfl) (by kernel_rfl) (by kernel_rfl) (by kernel_rfl) (fun _ _ _ h => h) (fun w' hw => run_op_load1 _ _ rfl (.map 29 71) und_map rfl ⟨S, 1, none⟩ rfl (.map (some mb)) (hw.1.cell (i := 1) rfl)) ⟨S_13, M_13, trivial⟩ ?_
      simp only [Act.put, List.setIfInBounds_toArray, List.set_cons_zero, List.set_cons_succ]
      refine h_take 4 (.int .i64 ((L.length + 1 : Nat) : Int)) rfl 31 rfl (by kernel_rfl) (by kernel_rfl) (by kernel_rfl) (by kernel_rfl) (fun _ _ _ h => h) (fun w' hw => by rw [← HN1.out X]; exact Km.run_op_lenK _ _ rfl rfl hw.2.1 und_map) ⟨S_13, M_13, trivial⟩ ?_
      simp only [Act.put, List.setIfInBounds_toArray, List.set_cons_zero, List.set_cons_succ]
      refine h_take 5 (.pointer (some ⟨S, 0, none⟩)) rfl 32 rfl (by kernel_rfl) (by kernel_rfl) (by kernel_rfl) (by kernel_rfl) (fun _ _ _ h => h) (fun w' _ => by kernel_rfl) ⟨S_13, M_13, trivial⟩ ?_
      simp only [Act.put, List.setIfInBounds_toArray, List.set_cons_zero, List.set_cons_succ]
      refine h_take 6 (.pointer (some ⟨S, 0, none⟩)) rfl 33 rfl (by kernel_rfl) (by kernel_rfl) (by kernel_rfl) (by kernel_rfl) (fun _ _ _ h => h) (fun w' _ => by kernel_rfl) ⟨S_13, M_13, trivial⟩ ?_
      simp only [Act.put, List.setIfInBounds_toArray, List.set_cons_zero, List.set_cons_succ]
      refine h_take 7 (.pointer (some ⟨S, 0, none⟩)) rfl 34 rfl (by kernel_rfl) (by kernel_rfl) (by kernel_rfl) (by kernel_rfl) (fun _ _ _ h => h) (fun w' _ => by kernel_rfl) ⟨S_13, M_13, trivial⟩ ?_
      simp only [Act.put, List.setIfInBounds_toArray, List.set_cons_zero, List.set_cons_succ]
      refine h_take 8 (.int .i64 (r : Int)) rfl 35 rfl (by kernel_rfl) (by kernel_rfl) (by kernel_rfl) (by kernel_rfl) (fun _ _ _ h => h) (fun w' hw => run_op_load1 _ _ rfl (.int .i64) (by kernel_rfl) rfl ⟨S, 0, none⟩ rfl (.int .i64 (r : Int)) (hw.1.cell (i := 0) rfl)) ⟨S_13, M_13, trivial⟩ ?_
      simp only [Act.put, List.setIfInBounds_toArray, List.set_cons_zero, List.set_cons_succ]
      refine h_take 9 (.bool true) rfl 36 rfl (by kernel_rfl) (by kernel_rfl) (by kernel_rfl) (by kernel_rfl) (fun _ _ _ h => h) (fun w' _ => cmp_leq _ _ _ _ rfl .i64 ((L.length + 1 : Nat) : Int) (r : Int) rfl rfl true d1 w') ⟨S_13, M_13, trivial⟩ ?_
      simp only [Act.put, List.setIfInBounds_toArray, List.set_cons_zero, List.set_cons_succ]
      refine wpAnyH_done (by kernel_rfl) ?_ _
      clear M_13
      go_wp2_with (first
        | ((with_reducible refine at_slot 37 ?_); (refine arm_build (o := ⟨some 37, _, _, _, _, _⟩) rfl _ _ rfl (u8s zh) (by kernel_rfl) ?_); try simp only [Act.put, List.setIfInBounds_toArray, List.set_cons_zero, List.set_cons_succ])
        | ((with_reducible refine arm_store (o := ⟨none, _, _, _, _, _⟩) rfl _ _ _ rfl R 0 rfl (u8s zh) rfl _ _ (R_13) (fitH zh_ok) (u8s_one _) (szH zh_ok) ?_); intro y8 hy8 oy8 sy8; try simp only [Act.put, List.setIfInBounds_toArray, List.set_cons_zero, List.set_cons_succ]))
      have hc8 := bel_13.new oy8 geR
      have hA8 := A_13.only oy8 nRF.out
      exact bodyPost_ret (result_row2 (p := 6) (u := 7) (ty := 29) (t := 29) (by kernel_rfl) _ _ R (u8s zh) (.bool false) rfl rfl (hy8.congr (allH zh_ok)) (szH zh_ok)) rfl ⟨rfl, ⟨_, _, hA8, HE1.out X, GR.out⟩, hc8⟩
    · obtain ⟨x0, h0⟩ : ∃ x0, (ins vK x L)[0]? = some x0 := ⟨_, List.getElem?_eq_getElem (by omega)⟩
      obtain ⟨x1, h1⟩ : ∃ x1, (ins vK x L)[1]? = some x1 := ⟨_, List.getElem?_eq_getElem (by omega)⟩
      have hol : out digS pin (ins vK x L) < (ins vK x L).length := by have := out_le (d := digS) pin (ins vK x L); omega
      obtain ⟨g, hg⟩ : ∃ g, (ins vK x L)[out digS pin (ins vK x L)]? = some g := ⟨_, List.getElem?_eq_getElem hol⟩
      have HQ := Lib.hid (put_full hb hf hg)
      rw [HQ.out]
      have HG := Lib.hid (out_if h0 h1 hg)
      have d1 : decide (((L.length + 1 : Nat) : Int) ≤ (r : Int)) = false := decide_eq_false (by omega)
      have CL := Lib.hid (fun F1 X w0 a => least_any F1 S r mb pin (E ++ [(x, X)]) (ins vK x L) w0 a hL1 (HE1.out X) (by omega) x0 x1 h0 h1)
      rw [HG.out] at CL
      have HD : Hid (∀ X, ((E ++ [(x, X)]).map fun p => digS p.1).Nodup → (((E ++ [(x, X)]).filter fun p : Sta × Nat => decide (digS p.1 ≠ digS g)).map Prod.fst).Perm ((ins vK x L).eraseIdx (out digS pin (ins vK x L)))) := Lib.hid fun X hn => by
        have e : g = (ins vK x L)[out digS pin (ins vK x L)] := by rw [List.getElem?_eq_getElem hol] at hg; exact (Option.some.inj hg).symm
        have h2 := fst_filter (digS g) (HE1.out X)
        have h3 := filter_erase (ents_pair hn (HE1.out X)) hol
        rw [← e] at h3
        rw [h3] at h2
        exact h2
      have KG := Lib.hid (digS_ok g)
      have HHG : Hid (hashOk (digS g)) := Lib.hid (digS_ok g).len
      clear hb hf hil hL1 hL hE kL hl hr kx h0 h1 hol hg HG HQ
      go_enter Tryd.func23, Tryd.ntmps23
      have bel0 : Chg F w w := Chg.refl _ _
      go_wp2_with (first
        | ((with_reducible refine at_slot 4 ?_); (refine arm_box (o := ⟨some 4, _, _, _, _, _⟩) rfl _ _ rfl (u8s (digS x)) rfl ?_); intro H v1 He hv1 nv1; try simp only [Act.put, List.setIfInBounds_toArray, List.set_cons_zero, List.set_cons_succ])
        | ((with_reducible refine at_slot 5 ?_); (refine arm_box (o := ⟨some 5, _, _, _, _, _⟩) rfl _ _ rfl (scs x) rfl ?_); intro X v2 Xe hv2 nv2; try simp only [Act.put, List.setIfInBounds_toArray, List.set_cons_zero, List.set_cons_succ])
        | ((with_reducible refine at_slot 6 ?_); (refine arm_alloc (o := ⟨some 6, _, _, _, _, _⟩) rfl _ rfl (u8s zh) zH ?_); intro R v3 Re hv3 nv3; try simp only [Act.put, List.setIfInBounds_toArray, List.set_cons_zero, List.set_cons_succ]))
      have hbv1 := nv1.below
      have rrv1 : Row v1 H 29 (u8s (digS x)) := hv1
      have hbv2 := nv2.below
      have rrv2 : Row v2 X 41 (scs x) := hv2
      have hbv3 := nv3.below
      have rrv3 : Row v3 R 29 (u8s zh) := hv3
      have geH : w.heap.size ≤ H := by have := He.out; have := bel0.size; omega
      have lHx : w.heap.size ≤ H := by have := He.out; omega
      clear hv1 nv1 He
      have S_4 : Row v1 S 67 (pcs r mb pin) := hrow.old hbv1
      have M_4 : PMap v1 mb E := hmap.old hbv1
      have T_4 : ∀ p ∈ E, Row v1 p.2 41 (scs p.1) := fun p hp => (hst p hp).old hbv1
      have bel_4 : Chg F w v1 := bel0.old hbv1
      clear hrow hmap hst bel0 hbv1
      have geX : w.heap.size ≤ X := by have := Xe.out; have := bel_4.size; omega
      have ltHX : H < X := by have := Xe.out; have := rrv1.lt; omega
      have lXx : v1.heap.size ≤ X := by have := Xe.out; omega
      clear hv2 nv2 Xe
      have S_5 : Row v2 S 67 (pcs r mb pin) := S_4.old hbv2
      have M_5 : PMap v2 mb E := M_4.old hbv2
      have T_5 : ∀ p ∈ E, Row v2 p.2 41 (scs p.1) := fun p hp => (T_4 p hp).old hbv2
      have H_5 : Row v2 H 29 (u8s (digS x)) := rrv1.old hbv2
      have bel_5 : Chg F w v2 := bel_4.old hbv2
      clear S_4 M_4 T_4 rrv1 bel_4 hbv2
      have geR : w.heap.size ≤ R := by have := Re.out; have := bel_5.size; omega
      have ltXR : X < R := by have := Re.out; have := rrv2.lt; omega
      have lRx : v2.heap.size ≤ R := by have := Re.out; omega
      clear hv3 nv3 Re
      have S_6 : Row v3 S 67 (pcs r mb pin) := S_5.old hbv3
      have M_6 : PMap v3 mb E := M_5.old hbv3
      have T_6 : ∀ p ∈ E, Row v3 p.2 41 (scs p.1) := fun p hp => (T_5 p hp).old hbv3
      have H_6 : Row v3 H 29 (u8s (digS x)) := H_5.old hbv3
      have X_6 : Row v3 X 41 (scs x) := rrv2.old hbv3
      have bel_6 : Chg F w v3 := bel_5.old hbv3
      clear S_5 M_5 T_5 H_5 rrv2 bel_5 hbv3
      refine wp_region_held (S := fun w' => Row w' S 67 (pcs r mb pin) ∧ PMap w' mb E ∧ Row w' H 29 (u8s (digS x)) ∧ True) (by kernel_rfl) ?_
      change wpAnyH _ _ _ _ _ _ _ _ v3.drew
      have hd7 : Below v3.heap.size v3 v3.drew := (Below.refl _ _).drew
      have S_8 : Row v3.drew S 67 (pcs r mb pin) := S_6.old hd7
      have M_8 : PMap v3.drew mb E := M_6.old hd7
      have T_8 : ∀ p ∈ E, Row v3.drew p.2 41 (scs p.1) := fun p hp => (T_6 p hp).old hd7
      have H_8 : Row v3.drew H 29 (u8s (digS x)) := H_6.old hd7
      have X_8 : Row v3.drew X 41 (scs x) := X_6.old hd7
      have R_8 : Row v3.drew R 29 (u8s zh) := rrv3.old hd7
      have bel_8 : Chg F w v3.drew := bel_6.old hd7
      clear S_6 M_6 T_6 H_6 X_6 rrv3 bel_6 hd7
      generalize v3.drew = yz7 at S_8 M_8 T_8 H_8 X_8 R_8 bel_8 ⊢
      refine h_take 0 (.pointer (some ⟨S, 0, none⟩)) rfl 12 rfl (by kernel_rfl) (by kernel_rfl) (by kernel_rfl) (by kernel_rfl) (fun _ _ _ h => h) (fun w' _ => by kernel_rfl) ⟨S_8, M_8, H_8, trivial⟩ ?_
      simp only [Act.put, List.setIfInBounds_toArray, List.set_cons_zero, List.set_cons_succ]
      refine h_take 1 (.pointer (some ⟨S, 0, none⟩)) rfl 13 rfl (by kernel_rfl) (by kernel_rfl) (by kernel_rfl) (by kernel_rfl) (fun _ _ _ h => h) (fun w' _ => by kernel_rfl) ⟨S_8, M_8, H_8, trivial⟩ ?_
      simp only [Act.put, List.setIfInBounds_toArray, List.set_cons_zero, List.set_cons_succ]
      refine h_take 2 (.pointer (some ⟨S, 1, none⟩)) rfl 14 rfl (by kernel_rfl) (by kernel_rfl) (by kernel_rfl) (by kernel_rfl) (fun _ _ _ h => h) (fun w' _ => by kernel_rfl) ⟨S_8, M_8, H_8, trivial⟩ ?_
      simp only [Act.put, List.setIfInBounds_toArray, List.set_cons_zero, List.set_cons_succ]
      refine h_take 3 (.map (some mb)) rfl 15 rfl (by kernel_rfl) (by kernel_rfl) (by kernel_rfl) (by kernel_rfl) (fun _ _ _ h => h) (fun w' hw => run_op_load1 _ _ rfl (.map 29 71) und_map rfl ⟨S, 1, none⟩ rfl (.map (some mb)) (hw.1.cell (i := 1) rfl)) ⟨S_8, M_8, H_8, trivial⟩ ?_
      simp only [Act.put, List.setIfInBounds_toArray, List.set_cons_zero, List.set_cons_succ]
      refine h_take 4 (.agg (u8s (digS x)).toArray) rfl 16 rfl (by kernel_rfl) (by kernel_rfl) (by kernel_rfl) (by kernel_rfl) (fun _ _ _ h => h) (fun w' hw => run_op_load _ _ rfl H (0) rfl (u8s (digS x)) (((Has.refl _)).range hw.2.2.1) ((szH KH.out))) ⟨S_8, M_8, H_8, trivial⟩ ?_
      simp only [Act.put, List.setIfInBounds_toArray, List.set_cons_zero, List.set_cons_succ]
      refine h_take 5 (.tuple #[.pointer none, .bool false]) rfl 17 rfl (by kernel_rfl) (by kernel_rfl) (by kernel_rfl) (by kernel_rfl) (fun _ _ _ h => h) (fun w' hw => by rw [← HV.out]; exact run_op_lookupK _ _ _ true rfl rfl (digS x) HH.out rfl hw.2.1 hash_keys und_map _ (zero_ptr _)) ⟨S_8, M_8, H_8, trivial⟩ ?_
      simp only [Act.put, List.setIfInBounds_toArray, List.set_cons_zero, List.set_cons_succ]
      refine h_take 6 (.tuple #[.pointer none, .bool false]) rfl 11 rfl (by kernel_rfl) (by kernel_rfl) (by kernel_rfl) (by kernel_rfl) (fun _ _ _ h => h) (fun w' _ => by kernel_rfl) ⟨S_8, M_8, H_8, trivial⟩ ?_
      simp only [Act.put, List.setIfInBounds_toArray, List.set_cons_zero, List.set_cons_succ]
      refine h_take 7 (.pointer none) rfl 18 rfl (by kernel_rfl) (by kernel_rfl) (by kernel_rfl) (by kernel_rfl) (fun _ _ _ h => h) (fun w' _ => by kernel_rfl) ⟨S_8, M_8, H_8, trivial⟩ ?_
      simp only [Act.put, List.setIfInBounds_toArray, List.set_cons_zero, List.set_cons_succ]
      refine h_take 8 (.bool false) rfl 19 rfl (by kernel_rfl) (by kernel_rfl) (by kernel_rfl) (by kernel_rfl) (fun _ _ _ h => h) (fun w' _ => by kernel_rfl) ⟨S_8, M_8, H_8, trivial⟩ ?_
      simp only [Act.put, List.setIfInBounds_toArray, List.set_cons_zero, List.set_cons_succ]
      refine h_take 9 (.pointer none) rfl 8 rfl (by kernel_rfl) (by kernel_rfl) (by kernel_rfl) (by kernel_rfl) (fun _ _ _ h => h) (fun w' _ => by kernel_rfl) ⟨S_8, M_8, H_8, trivial⟩ ?_
      simp only [Act.put, List.setIfInBounds_toArray, List.set_cons_zero, List.set_cons_succ]
      refine h_take 10 (.bool false) rfl 9 rfl (by kernel_rfl) (by kernel_rfl) (by kernel_rfl) (by kernel_rfl) (fun _ _ _ h => h) (fun w' _ => by kernel_rfl) ⟨S_8, M_8, H_8, trivial⟩ ?_
      simp only [Act.put, List.setIfInBounds_toArray, List.set_cons_zero, List.set_cons_succ]
      refine wpAnyH_done (by kernel_rfl) ?_ _
      go_wp2_with fail
      have nHm : H ≠ mb := (M_8.row H_8).symm
      have nXm : X ≠ mb := (M_8.row X_8).symm
      have nRm : R ≠ mb := (M_8.row R_8).symm
      refine wp_region_held (S := fun w' => Row w' S 67 (pcs r mb pin) ∧ Row w' H 29 (u8s (digS x)) ∧ True) (by kernel_rfl) ?_
      change wpAnyH _ _ _ _ _ _ _ _ yz7.drew
      have hd9 : Below yz7.heap.size yz7 yz7.drew := (Below.refl _ _).drew
      have S_10 : Row yz7.drew S 67 (pcs r mb pin) := S_8.old hd9
      have M_10 : PMap yz7.drew mb E := M_8.old hd9
      have T_10 : ∀ p ∈ E, Row yz7.drew p.2 41 (scs p.1) := fun p hp => (T_8 p hp).old hd9
      have H_10 : Row yz7.drew H 29 (u8s (digS x)) := H_8.old hd9
      have X_10 : Row yz7.drew X 41 (scs x) := X_8.old hd9
      have R_10 : Row yz7.drew R 29 (u8s zh) := R_8.old hd9
      have bel_10 : Chg F w yz7.drew := bel_8.old hd9
      clear S_8 M_8 T_8 H_8 X_8 R_8 bel_8 hd9
      generalize yz7.drew = yz9 at S_10 M_10 T_10 H_10 X_10 R_10 bel_10 ⊢
      refine h_take 0 (.pointer (some ⟨S, 0, none⟩)) rfl 22 rfl (by kernel_rfl) (by kernel_rfl) (by kernel_rfl) (by kernel_rfl) (fun _ _ _ h => h) (fun w' _ => by kernel_rfl) ⟨S_10, H_10, trivial⟩ ?_
      simp only [Act.put, List.setIfInBounds_toArray, List.set_cons_zero, List.set_cons_succ]
      refine h_take 1 (.pointer (some ⟨S, 0, none⟩)) rfl 23 rfl (by kernel_rfl) (by kernel_rfl) (by kernel_rfl) (by kernel_rfl) (fun _ _ _ h => h) (fun w' _ => by kernel_rfl) ⟨S_10, H_10, trivial⟩ ?_
      simp only [Act.put, List.setIfInBounds_toArray, List.set_cons_zero, List.set_cons_succ]
      refine h_take 2 (.pointer (some ⟨S, 1, none⟩)) rfl 24 rfl (by kernel_rfl) (by kernel_rfl) (by kernel_rfl) (by kernel_rfl) (fun _ _ _ h => h) (fun w' _ => by kernel_rfl) ⟨S_10, H_10, trivial⟩ ?_
      simp only [Act.put, List.setIfInBounds_toArray, List.set_cons_zero, List.set_cons_succ]
      refine h_take 3 (.map (some mb)) rfl 25 rfl (by kernel_rfl) (by kernel_rfl) (by kernel_rfl) (by kernel_rfl) (fun _ _ _ h => h) (fun w' hw => run_op_load1 _ _ rfl (.map 29 71) und_map rfl ⟨S, 1, none⟩ rfl (.map (some mb)) (hw.1.cell (i := 1) rfl)) ⟨S_10, H_10, trivial⟩ ?_
      simp only [Act.put, List.setIfInBounds_toArray, List.set_cons_zero, List.set_cons_succ]
      refine h_take 4 (.agg (u8s (digS x)).toArray) rfl 26 rfl (by kernel_rfl) (by kernel_rfl) (by kernel_rfl) (by kernel_rfl) (fun _ _ _ h => h) (fun w' hw => run_op_load _ _ rfl H (0) rfl (u8s (digS x)) (((Has.refl _)).range hw.2.1) ((szH KH.out))) ⟨S_10, H_10, trivial⟩ ?_
      simp only [Act.put, List.setIfInBounds_toArray, List.set_cons_zero, List.set_cons_succ]
      refine h_one (i := 5) (by kernel_rfl) (o_updateK rfl rfl (by kernel_rfl) _ _ _ _ rfl rfl (digS x) HH.out rfl X rfl M_10 hash_keys und_map ?_)
      intro yU hMU oU sU
      rw [HPE.out X] at hMU
      have S_11 : Row yU S 67 (pcs r mb pin) := S_10.only oU nSm
      have M_11 : PMap yU mb (E ++ [(x, X)]) := hMU
      have T_11 : ∀ p ∈ E, Row yU p.2 41 (scs p.1) := fun p hp => (T_10 p hp).only oU ((fun p hp => NS.out p hp) p hp)
      have H_11 : Row yU H 29 (u8s (digS x)) := H_10.only oU nHm
      have X_11 : Row yU X 41 (scs x) := X_10.only oU nXm
      have R_11 : Row yU R 29 (u8s zh) := R_10.only oU nRm
      have bel_11 : Chg F w yU := bel_10.only oU (fm)
      clear S_10 M_10 T_10 H_10 X_10 R_10 bel_10 oU
      refine ⟨⟨S_11, H_11, trivial⟩, ?_⟩
      refine wpAnyH_done (by kernel_rfl) ?_ _
      have hA1 : SAt yU (fun k => F k ∨ k = X) S r mb pin (E ++ [(x, X)]) := by
        refine ⟨S_11, M_11, fun p hp => ?_, fun p hp => ?_, HP.out, .inl fS, .inl fm, fun p hp => ?_, fun k hk => ?_⟩
        · rcases List.mem_append.1 hp with hp | hp
          · exact T_11 p hp
          · rw [List.mem_singleton.1 hp]; exact X_11
        · rcases List.mem_append.1 hp with hp | hp
          · exact OK.out p hp
          · rw [List.mem_singleton.1 hp]; exact KX.out
        · rcases List.mem_append.1 hp with hp | hp
          · exact .inl (fE.out p hp)
          · rw [List.mem_singleton.1 hp]; exact .inr rfl
        · rcases hk with hk | rfl
          · exact Nat.lt_of_lt_of_le (LI.out k hk) bel_11.size
          · exact X_11.lt
      have GR : Hid (Grew F (fun k => F k ∨ k = X) w.heap.size) := Lib.hid (fun k hk => hk.imp id (fun e => by rw [e]; exact geX))
      have nRF : Hid (¬ (F R ∨ R = X)) := Lib.hid (fun h => h.elim (fun q => Nat.lt_irrefl _ (Nat.lt_of_lt_of_le (LI.out _ q) geR)) (fun e => by have := ltXR; omega))
      clear M_11
      clear T_11
      clear X_11
      clear H_11
      go_wp2_with fail
      have hM1 := hA1.map
      refine wp_region_held (S := fun w' => Row w' S 67 (pcs r mb pin) ∧ PMap w' mb (E ++ [(x, X)]) ∧ True) (by kernel_rfl) ?_
      change wpAnyH _ _ _ _ _ _ _ _ yU.drew
      have hd12 : Below yU.heap.size yU yU.drew := (Below.refl _ _).drew
      have S_13 : Row yU.drew S 67 (pcs r mb pin) := S_11.old hd12
      have R_13 : Row yU.drew R 29 (u8s zh) := R_11.old hd12
      have A_13 : SAt yU.drew (fun k => F k ∨ k = X) S r mb pin (E ++ [(x, X)]) := hA1.old hd12
      have M_13 : PMap yU.drew mb (E ++ [(x, X)]) := hM1.old hd12
      have bel_13 : Chg F w yU.drew := bel_11.old hd12
      clear S_11 R_11 hA1 hM1 bel_11 hd12
      generalize yU.drew = yz12 at S_13 R_13 A_13 M_13 bel_13 ⊢
      refine h_take 0 (.pointer (some ⟨S, 0, none⟩)) rfl 27 rfl (by kernel_rfl) (by kernel_rfl) (by kernel_rfl) (by kernel_rfl) (fun _ _ _ h => h) (fun w' _ => by kernel_rfl) ⟨S_13, M_13, trivial⟩ ?_
      simp only [Act.put, List.setIfInBounds_toArray, List.set_cons_zero, List.set_cons_succ]
      refine h_take 1 (.pointer (some ⟨S, 0, none⟩)) rfl 28 rfl (by kernel_rfl) (by kernel_rfl) (by kernel_rfl) (by kernel_rfl) (fun _ _ _ h => h) (fun w' _ => by kernel_rfl) ⟨S_13, M_13, trivial⟩ ?_
      simp only [Act.put, List.setIfInBounds_toArray, List.set_cons_zero, List.set_cons_succ]
      refine h_take 2 (.pointer (some ⟨S, 1, none⟩)) rfl 29 rfl (by kernel_rfl) (by kernel_rfl) (by kernel_rfl) (by kernel_rfl) (fun _ _ _ h => h) (fun w' _ => by kernel_rfl) ⟨S_13, M_13, trivial⟩ ?_
      simp only [Act.put, List.setIfInBounds_toArray, List.set_cons_zero, List.set_cons_succ]
      refine h_take 3 (.map (some mb)) rfl 30 rfl (by kernel_rfl) (by kernel_rfl) (by kernel_rfl) (by kernel_rfl) (fun _ _ _ h => h) (fun w' hw => run_op_load1 _ _ rfl (.map 29 71) und_map rfl ⟨S, 1, none⟩ rfl (.map (some mb)) (hw.1.cell (i := 1) rfl)) ⟨S_13, M_13, trivial⟩ ?_
      simp only [Act.put, List.setIfInBounds_toArray, List.set_cons_zero, List.set_cons_succ]
      refine h_take 4 (.int .i64 ((L.length + 1 : Nat) : Int)) rfl 31 rfl (by kernel_rfl) (by kernel_rfl) (by kernel_rfl) (by kernel_rfl) (fun _ _ _ h => h) (fun w' hw => by rw [← HN1.out X]; exact Km.run_op_lenK _ _ rfl rfl hw.2.1 und_map) ⟨S_13, M_13, trivial⟩ ?_
      simp only [Act.put, List.setIfInBounds_toArray, List.set_cons_zero, List.set_cons_succ]
      refine h_take 5 (.pointer (some ⟨S, 0, none⟩)) rfl 32 rfl (by kernel_rfl) (by kernel_rfl) (by kernel_rfl) (by kernel_rfl) (fun _ _ _ h => h) (fun w' _ => by kernel_rfl) ⟨S_13, M_13, trivial⟩ ?_
      simp only [Act.put, List.setIfInBounds_toArray, List.set_cons_zero, List.set_cons_succ]
      refine h_take 6 (.pointer (some ⟨S, 0, none⟩)) rfl 33 rfl (by kernel_rfl) (by kernel_rfl) (by kernel_rfl) (by kernel_rfl) (fun _ _ _ h => h) (fun w' _ => by kernel_rfl) ⟨S_13, M_13, trivial⟩ ?_
      simp only [Act.put, List.setIfInBounds_toArray, List.set_cons_zero, List.set_cons_succ]
      refine h_take 7 (.pointer (some ⟨S, 0, none⟩)) rfl 34 rfl (by kernel_rfl) (by kernel_rfl) (by kernel_rfl) (by kernel_rfl) (fun _ _ _ h => h) (fun w' _ => by kernel_rfl) ⟨S_13, M_13, trivial⟩ ?_
      simp only [Act.put, List.setIfInBounds_toArray, List.set_cons_zero, List.set_cons_succ]
      refine h_take 8 (.int .i64 (r : Int)) rfl 35 rfl (by kernel_rfl) (by kernel_rfl) (by kernel_rfl) (by kernel_rfl) (fun _ _ _ h => h) (fun w' hw => run_op_load1 _ _ rfl (.int .i64) (by kernel_rfl) rfl ⟨S, 0, none⟩ rfl (.int .i64 (r : Int)) (hw.1.cell (i := 0) rfl)) ⟨S_13, M_13, trivial⟩ ?_
      simp only [Act.put, List.setIfInBounds_toArray, List.set_cons_zero, List.set_cons_succ]
      refine h_take 9 (.bool false) rfl 36 rfl (by kernel_rfl) (by kernel_rfl) (by kernel_rfl) (by kernel_rfl) (fun _ _ _ h => h) (fun w' _ => cmp_leq _ _ _ _ rfl .i64 ((L.length + 1 : Nat) : Int) (r : Int) rfl rfl false d1 w') ⟨S_13, M_13, trivial⟩ ?_
      simp only [Act.put, List.setIfInBounds_toArray, List.set_cons_zero, List.set_cons_succ]
      refine wpAnyH_done (by kernel_rfl) ?_ _
      clear M_13
      go_wp2_with fail
      refine (CL.out _ X _ A_13).mono ?_
      rintro e y14 ⟨rfl, hB⟩
      have S_15 : Row y14 S 67 (pcs r mb pin) := S_13.old hB
      have R_15 : Row y14 R 29 (u8s zh) := R_13.old hB
      have A_15 : SAt y14 (fun k => F k ∨ k = X) S r mb pin (E ++ [(x, X)]) := A_13.old hB
      have bel_15 : Chg F w y14 := bel_13.old hB
      clear S_13 R_13 A_13 bel_13 hB
      go_wp2_with (first
        | ((with_reducible refine at_slot 10 ?_); (refine arm_alloc (o := ⟨some 10, _, _, _, _, _⟩) rfl _ rfl (u8s zh) zH ?_); intro Z v16a Ze hZa nZ; try simp only [Act.put, List.setIfInBounds_toArray, List.set_cons_zero, List.set_cons_succ])
        | ((with_reducible refine arm_store (o := ⟨none, _, _, _, _, _⟩) rfl _ _ _ rfl Z 0 rfl (u8s (digS g)) rfl _ _ hZa (fitH KG.out) (u8s_one _) (szH KG.out) ?_); intro v16 hZb oZ sZ; try simp only [Act.put, List.setIfInBounds_toArray, List.set_cons_zero, List.set_cons_succ]; refine fpause ?_; try simp only [Act.put, List.setIfInBounds_toArray, List.set_cons_zero, List.set_cons_succ]))
      have lZ : y14.heap.size ≤ Z := by have := Ze.out; omega
      have bZ : Below y14.heap.size y14 v16 := below_only nZ.below oZ lZ nZ.below.size
      have rrZ : Row v16 Z 29 (u8s (digS g)) := hZb.congr (allH KG.out)
      have geZ : w.heap.size ≤ Z := Nat.le_trans bel_15.size lZ
      have lZx := lZ
      clear hZa hZb nZ oZ sZ Ze lZ
      have S_17 : Row v16 S 67 (pcs r mb pin) := S_15.old bZ
      have R_17 : Row v16 R 29 (u8s zh) := R_15.old bZ
      have A_17 : SAt v16 (fun k => F k ∨ k = X) S r mb pin (E ++ [(x, X)]) := A_15.old bZ
      have bel_17 : Chg F w v16 := bel_15.old bZ
      clear S_15 R_15 A_15 bel_15 bZ
      refine fgo ?_
      have hM2 := A_17.map
      have nZm : Z ≠ mb := (hM2.row rrZ).symm
      have nZF : Hid (¬ (F Z ∨ Z = X)) := Lib.hid (fun h => h.elim (fun q => Nat.lt_irrefl _ (Nat.lt_of_lt_of_le (LI.out _ q) geZ)) (fun e => rrZ.ne_type (A_17.st (x, X) (by simp)) (by decide) e))
      go_wp2_with fail
      refine wp_region_held (S := fun w' => Row w' S 67 (pcs r mb pin) ∧ Row w' Z 29 (u8s (digS g)) ∧ True) (by kernel_rfl) ?_
      change wpAnyH _ _ _ _ _ _ _ _ v16.drew
      have hd18 : Below v16.heap.size v16 v16.drew := (Below.refl _ _).drew
      have S_19 : Row v16.drew S 67 (pcs r mb pin) := S_17.old hd18
      have R_19 : Row v16.drew R 29 (u8s zh) := R_17.old hd18
      have A_19 : SAt v16.drew (fun k => F k ∨ k = X) S r mb pin (E ++ [(x, X)]) := A_17.old hd18
      have Z_19 : Row v16.drew Z 29 (u8s (digS g)) := rrZ.old hd18
      have M_19 : PMap v16.drew mb (E ++ [(x, X)]) := hM2.old hd18
      have bel_19 : Chg F w v16.drew := bel_17.old hd18
      clear S_17 R_17 A_17 rrZ hM2 bel_17 hd18
      generalize v16.drew = yz18 at S_19 R_19 A_19 Z_19 M_19 bel_19 ⊢
      refine h_take 0 (.pointer (some ⟨S, 0, none⟩)) rfl 40 rfl (by kernel_rfl) (by kernel_rfl) (by kernel_rfl) (by kernel_rfl) (fun _ _ _ h => h) (fun w' _ => by kernel_rfl) ⟨S_19, Z_19, trivial⟩ ?_
      simp only [Act.put, List.setIfInBounds_toArray, List.set_cons_zero, List.set_cons_succ]
      refine h_take 1 (.pointer (some ⟨S, 0, none⟩)) rfl 41 rfl (by kernel_rfl) (by kernel_rfl) (by kernel_rfl) (by kernel_rfl) (fun _ _ _ h => h) (fun w' _ => by kernel_rfl) ⟨S_19, Z_19, trivial⟩ ?_
      simp only [Act.put, List.setIfInBounds_toArray, List.set_cons_zero, List.set_cons_succ]
      refine h_take 2 (.pointer (some ⟨S, 1, none⟩)) rfl 42 rfl (by kernel_rfl) (by kernel_rfl) (by kernel_rfl) (by kernel_rfl) (fun _ _ _ h => h) (fun w' _ => by kernel_rfl) ⟨S_19, Z_19, trivial⟩ ?_
      simp only [Act.put, List.setIfInBounds_toArray, List.set_cons_zero, List.set_cons_succ]
      refine h_take 3 (.map (some mb)) rfl 43 rfl (by kernel_rfl) (by kernel_rfl) (by kernel_rfl) (by kernel_rfl) (fun _ _ _ h => h) (fun w' hw => run_op_load1 _ _ rfl (.map 29 71) und_map rfl ⟨S, 1, none⟩ rfl (.map (some mb)) (hw.1.cell (i := 1) rfl)) ⟨S_19, Z_19, trivial⟩ ?_
      simp only [Act.put, List.setIfInBounds_toArray, List.set_cons_zero, List.set_cons_succ]
      refine h_take 4 (.agg (u8s (digS g)).toArray) rfl 44 rfl (by kernel_rfl) (by kernel_rfl) (by kernel_rfl) (by kernel_rfl) (fun _ _ _ h => h) (fun w' hw => run_op_load _ _ rfl Z (0) rfl (u8s (digS g)) (((Has.refl _)).range hw.2.1) ((szH KG.out))) ⟨S_19, Z_19, trivial⟩ ?_
      simp only [Act.put, List.setIfInBounds_toArray, List.set_cons_zero, List.set_cons_succ]
      refine h_one (i := 5) (by kernel_rfl) (Sl.o_deleteK rfl rfl (by kernel_rfl) _ _ _ rfl rfl (digS g) HHG.out rfl M_19 hash_keys und_map ?_)
      intro yD hMD oD
      rw [ent_filter] at hMD
      have hA3 : SAt yD (fun k => F k ∨ k = X) S r mb pin ((E ++ [(x, X)]).filter fun p : Sta × Nat => decide (digS p.1 ≠ digS g)) := by
        have hA := A_19
        exact ⟨hA.row.only oD nSm, hMD, fun p hp => (hA.st p (List.mem_filter.1 hp).1).only oD (st_ne_m hA (List.mem_filter.1 hp).1), fun p hp => hA.ok p (List.mem_filter.1 hp).1, hA.pok, hA.fS, hA.fm, fun p hp => hA.fE p (List.mem_filter.1 hp).1, hA.lies.mono oD.size⟩
      have HD2 := Lib.hid (HD.out X (ent_nodup A_19))
      clear A_19
      clear M_19
      have S_20 : Row yD S 67 (pcs r mb pin) := S_19.only oD nSm
      have R_20 : Row yD R 29 (u8s zh) := R_19.only oD nRm
      have Z_20 : Row yD Z 29 (u8s (digS g)) := Z_19.only oD nZm
      have bel_20 : Chg F w yD := bel_19.only oD (fm)
      clear S_19 R_19 Z_19 bel_19 oD
      refine ⟨⟨S_20, Z_20, trivial⟩, ?_⟩
      refine wpAnyH_done (by kernel_rfl) ?_ _
      go_wp2_with (first
        | ((with_reducible refine at_slot 45 ?_); (refine arm_load (o := ⟨some 45, _, _, _, _, _⟩) rfl _ _ rfl Z 0 rfl (u8s (digS g)) ((Has.refl _).range Z_20) (szH KG.out) ?_); try simp only [Act.put, List.setIfInBounds_toArray, List.set_cons_zero, List.set_cons_succ])
        | ((with_reducible refine arm_store (o := ⟨none, _, _, _, _, _⟩) rfl _ _ _ rfl R 0 rfl (u8s (digS g)) rfl _ _ (R_20) (fitH KG.out) (u8s_one _) (szH KG.out) ?_); intro y9 hy9 oy9 sy9; try simp only [Act.put, List.setIfInBounds_toArray, List.set_cons_zero, List.set_cons_succ]))
      have hc9 := bel_20.new oy9 geR
      have hA9 := hA3.only oy9 nRF.out
      exact bodyPost_ret (result_row2 (p := 6) (u := 7) (ty := 29) (t := 29) (by kernel_rfl) _ _ R (u8s (digS g)) (.bool true) rfl rfl (hy9.congr (allH KG.out)) (szH KG.out)) rfl ⟨rfl, ⟨_, _, hA9, HD2.out, GR.out⟩, hc9⟩
end Go.Proofs.YtnjmocobncncdaaDoor.So
