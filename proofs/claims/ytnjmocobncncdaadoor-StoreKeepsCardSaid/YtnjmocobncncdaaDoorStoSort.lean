/-
  slices.SortFunc at the store's digests, in the order of their states' keys. Over this seat's translation.
-/
import Derived.Test.YtnjmocobncncdaaDoorStoKey
import Derived.Shelf.SlSortCmp.WholeK
import Derived.Shelf.SlSortCmp.NoneTotal
import Derived.Shelf.SlGeneric
import Derived.Ground.SlsfProg
namespace Go.Proofs
open Go.Shelf Go.RowKit
shelf_lay_g SlLaysF0.n6 Slsf 6 at Tryd 39 as Tryd.sortD
end Go.Proofs
namespace Go.Proofs.YtnjmocobncncdaaDoor.So
open Go.ChangeShapes Go.WideShapes Go.ChangeAt Go.RowKit Go.Proofs.YtnjmocobncncdaaDoor.Mem Go.Proofs.YtnjmocobncncdaaDoor.Bt Go.Proofs.YtnjmocobncncdaaDoor.Km
open Go.Proofs.YtnjmocobncncdaaDoor.Ep (H32 zh zh_ok Has h_len szH zH fitH allH one_app num32)
open Go.Proofs.YtnjmocobncncdaaDoor.Sl (Kind At bk)
open Go.Proofs.YtnjmocobncncdaaDoor.Sa (Sta scs digS digS_ok sz_sta)
open Go.Proofs.YtnjmocobncncdaaDoor.Od (Ky kcs keyN keyN_ok kcs_len kcmp kval cmpN_neg)
open Go.Sort (SWO PermIn SortedIn HoldsK Holds flatK putRowK putRow putCells mapBlock onCells grow get_flatK size_flatK)
set_option linter.unusedVariables false
set_option linter.unusedSimpArgs false

theorem perm_lift {α β : Type} (f : α → β) {l m : List β} (h : l.Perm m) : ∀ {E : List α}, E.map f = m → ∃ E' : List α, E'.map f = l ∧ E'.Perm E := by
  induction h with
  | nil => intro E e; exact ⟨E, e, List.Perm.refl _⟩
  | cons x h ih =>
    intro E e
    cases E with
    | nil => cases e
    | cons a E =>
      simp only [List.map_cons, List.cons.injEq] at e
      obtain ⟨E', h1, h2⟩ := ih e.2
      exact ⟨a :: E', by rw [List.map_cons, h1, e.1], h2.cons a⟩
  | swap x y l =>
    intro E e
    cases E with
    | nil => cases e
    | cons a E =>
      cases E with
      | nil => simp at e
      | cons b E =>
        simp only [List.map_cons, List.cons.injEq] at e
        exact ⟨b :: a :: E, by rw [List.map_cons, List.map_cons, e.1, e.2.1, e.2.2], List.Perm.swap a b E⟩
  | trans h1 h2 ih1 ih2 =>
    intro E e
    obtain ⟨E2, g1, g2⟩ := ih2 e
    obtain ⟨E1, g3, g4⟩ := ih1 g1
    exact ⟨E1, g3, g4.trans g2⟩
theorem lift_sub {α : Type} {P : α → Prop} : ∀ (l : List α), (∀ x ∈ l, P x) → ∃ es : List { x : α // P x }, es.map Subtype.val = l
  | [], _ => ⟨[], rfl⟩
  | x :: l, h => by
    obtain ⟨es, e⟩ := lift_sub l fun y hy => h y (by simp [hy])
    exact ⟨⟨x, h x (by simp)⟩ :: es, by rw [List.map_cons, e]⟩
theorem rise_inj {L : List Sta} (h : Rise vK L) {a b : Sta} (ha : a ∈ L) (hb : b ∈ L) (e : vK a = vK b) : a = b := by
  obtain ⟨i, hi, rfl⟩ := List.mem_iff_getElem.1 ha
  obtain ⟨j, hj, rfl⟩ := List.mem_iff_getElem.1 hb
  rcases Nat.lt_trichotomy i j with q | q | q
  · have := List.pairwise_iff_getElem.1 h i j hi hj q; omega
  · subst q; rfl
  · have := List.pairwise_iff_getElem.1 h j i hj hi q; omega
theorem sorted_is {L M : List Sta} (h : Rise vK L) (hp : M.Perm L) (hs : M.Pairwise fun a b => vK a ≤ vK b) : M = L :=
  List.Perm.eq_of_pairwise (le := fun a b => vK a ≤ vK b) (fun a b ha hb h1 h2 => rise_inj h (hp.mem_iff.1 ha) hb (by omega)) hs (h.imp fun q => Nat.le_of_lt q) hp
section
variable {E : Ents}
abbrev El (E : Ents) := { p : Sta × Nat // p ∈ E }
def encE (x : El E) : List Value := u8s (digS x.1.1)
def cfE (x y : El E) : Int := kcmp (keyN x.1.1) (keyN y.1.1)
theorem enc_len (x : El E) : (encE x).length = 32 := h_len (digS_ok _)
theorem lt_cf (x y : El E) : ltOf cfE x y = decide (vK x.1.1 < vK y.1.1) := by
  unfold ltOf cfE kcmp
  exact decide_eq_decide.2 cmpN_neg
theorem swo_cf : SWO (ltOf (cfE (E := E))) where
  irrefl x := by rw [lt_cf]; simp
  trans x y z h1 h2 := by rw [lt_cf] at *; simp at *; omega
  ntrans x y z h1 h2 := by rw [lt_cf] at *; simp at *; omega
abbrev digE (es : List (El E)) : List (List Nat) := es.map fun x => digS x.1.1
theorem flat_all [Inhabited (El E)] (es : List (El E)) : (flatK encE 32 es.toArray).toList = kD.all (digE es) := by
  have ok : kD.AllOk (digE es) := fun x hx => by
    obtain ⟨y, _, rfl⟩ := List.mem_map.1 hx
    exact digS_ok _
  have hl := Sl.all_len fD _ ok
  rw [List.length_map] at hl
  refine List.ext_getElem ?_ fun t h1 h2 => ?_
  · rw [Array.length_toList, size_flatK, hl]; simp
  · have ht : t < es.length * 32 := by rw [hl] at h2; exact h2
    have hd : t / 32 < es.length := by omega
    have hm : t % 32 < 32 := Nat.mod_lt _ (by omega)
    have e1 : (flatK encE 32 es.toArray)[t]! = (encE es.toArray[t / 32]!)[t % 32]! := get_flatK _ _ _ t (by simpa using ht)
    have e2 : es.toArray[t / 32]! = es[t / 32] := by simp [hd]
    have hx : (digE es)[t / 32]? = some (digS (es[t / 32]).1.1) := by rw [List.getElem?_map, List.getElem?_eq_getElem hd]; rfl
    have hlx : t % 32 < (u8s (digS (es[t / 32]).1.1)).length := by rw [h_len (digS_ok _)]; exact hm
    have e3 := Sl.all_get fD (digE es) ok (t / 32) _ hx (t % 32) _ (List.getElem?_eq_getElem hlx)
    have e4 : t / 32 * kD.n + t % 32 = t := Nat.div_add_mod' t 32
    rw [e4] at e3
    rw [List.getElem?_eq_getElem h2] at e3
    rw [Option.some.inj e3, Array.getElem_toList]
    rw [← getElem!_pos (flatK encE 32 es.toArray) t, e1, e2]
    show (u8s (digS (es[t / 32]).1.1))[t % 32]! = (u8s (digS (es[t / 32]).1.1))[t % 32]
    exact getElem!_pos (u8s (digS (es[t / 32]).1.1)) (t % 32) hlx
theorem own_row {w : World} {base : Nat} {p : Option Addr} {cap : Nat} {ds : List (List Nat)} (h : Sl.Own kD w base p cap ds) (hn : ds ≠ []) :
    ∃ g cur, p = some ⟨g, 0, none⟩ ∧ base ≤ g ∧ w.heap[g]? = some (.cells cur 29 (0, 0)) ∧ ds.length ≤ cap ∧ cap ≤ maxLen ∧ cur.size = cap * 32 ∧ cur.toList.take (ds.length * 32) = kD.all ds := by
  rcases h.own.2 with ⟨_, h0⟩ | ⟨g, cap', cur, hv, hg, hh, h1, h2, h3, h4⟩
  · exact absurd (List.length_eq_zero_iff.1 h0) hn
  · simp only [Value.slice.injEq] at hv
    obtain ⟨rfl, _, rfl⟩ := hv
    exact ⟨g, cur, rfl, hg, hh, h1, h2, h3, h4⟩
theorem put_cells (F c : Array Value) (h : F.size ≤ c.size) : (putCells id 0 F c).size = c.size ∧ (putCells id 0 F c).toList.take F.size = F.toList := by
  unfold putCells
  refine ⟨by simp, List.ext_getElem (by simp; omega) fun t h1 h2 => ?_⟩
  have ht : t < F.size := by simpa using h2
  have ht2 : t < c.size := by omega
  simp [ht]
variable {w : World} {g : Nat} {cur : Array Value} {t : TypeId}
theorem sort_block [Inhabited (El E)] (n : Nat) (d : Array (El E)) (os : Array Obj) (k : Nat) (hk : k < w.heap.size) (hn : k ≠ g) : (sortWorldK encE 32 w g 0 n d os).heap[k]? = w.heap[k]? := by
  unfold sortWorldK grow
  show ((putRowK encE 32 (Sort.ahead w n) g 0 d).heap ++ os)[k]? = _
  have hs : (putRowK encE 32 (Sort.ahead w n) g 0 d).heap.size = w.heap.size := by simp [putRowK, putRow, mapBlock, Sort.ahead]
  rw [Array.getElem?_append_left (by rw [hs]; exact hk)]
  show ((Sort.ahead w n).heap.modify g _)[k]? = _
  rw [Array.getElem?_modify]
  simp [Ne.symm hn, Sort.ahead]
theorem sort_row [Inhabited (El E)] (n : Nat) (d : Array (El E)) (os : Array Obj) (hg : w.heap[g]? = some (.cells cur t (0, 0))) : (sortWorldK encE 32 w g 0 n d os).heap[g]? = some (.cells (putCells id 0 (flatK encE 32 d) cur) t (0, 0)) := by
  have hk := (Array.getElem?_eq_some_iff.1 hg).1
  unfold sortWorldK grow
  show ((putRowK encE 32 (Sort.ahead w n) g 0 d).heap ++ os)[g]? = _
  have hs : (putRowK encE 32 (Sort.ahead w n) g 0 d).heap.size = w.heap.size := by simp [putRowK, putRow, mapBlock, Sort.ahead]
  rw [Array.getElem?_append_left (by rw [hs]; exact hk)]
  show ((Sort.ahead w n).heap.modify g _)[g]? = _
  rw [Array.getElem?_modify]
  simp only [if_true, Sort.ahead, hg, Option.map_some, onCells]
theorem sort_size [Inhabited (El E)] (n : Nat) (d : Array (El E)) (os : Array Obj) : w.heap.size ≤ (sortWorldK encE 32 w g 0 n d os).heap.size := by
  unfold sortWorldK grow
  show w.heap.size ≤ ((putRowK encE 32 (Sort.ahead w n) g 0 d).heap ++ os).size
  rw [Array.size_append, show (putRowK encE 32 (Sort.ahead w n) g 0 d).heap.size = w.heap.size by simp [putRowK, putRow, mapBlock, Sort.ahead]]
  omega
theorem sort_below [Inhabited (El E)] (n : Nat) (d : Array (El E)) (os : Array Obj) {base : Nat} (hb : base ≤ g) (hw : base ≤ w.heap.size) : Below base w (sortWorldK encE 32 w g 0 n d os) :=
  ⟨rfl, rfl, rfl, sort_size n d os, fun k hk => sort_block n d os k (by omega) (by omega)⟩
end
abbrev fnV (B : Nat) : Value := .func (.func 40) #[] #[.pointer (some ⟨B, 0, none⟩)]
theorem sort_any (F : Nat → Prop) (S r mb : Nat) (pin : Option (List Nat)) (E : Ents) (L : List Sta) (B base : Nat) (p : Option Addr) (cap : Nat) (ds : List (List Nat)) (w : World) (hS : SAt w F S r mb pin E) (hF : ∀ k, F k → k < base) (hB : Row w B 24 [.pointer (some ⟨S, 0, none⟩)]) (hBb : B < base) (hw : base ≤ w.heap.size)
    (hO : Sl.Own kD w base p cap ds) (hds : ds.Perm (E.map fun p => digS p.1)) (hL : Rise vK L) (hE : (E.map Prod.fst).Perm L) (hl : L.length ≤ 1000000) :
    Calls Tryd.prog 39 #[.slice p ds.length cap, fnV B] w fun e w' => e = .returned (.tuple #[]) ∧ Sl.Own kD w' base p cap (L.map digS) ∧ Below base w w' := by
  obtain ⟨E', he1, he2⟩ := perm_lift (fun p : Sta × Nat => digS p.1) hds rfl
  have hlen : ds.length = L.length := by rw [← he1, List.length_map, he2.length_eq, ← hE.length_eq, List.length_map]
  by_cases hn : ds = []
  · subst hn
    have hL0 : L = [] := List.length_eq_zero_iff.1 hlen.symm
    subst hL0
    refine (AnyF.slices_SortFunc_none Tryd.sortD p cap (fnV B) w).mono ?_
    rintro e w' ⟨rfl, rfl⟩
    exact ⟨rfl, hO, Below.refl _ _⟩
  · obtain ⟨g, cur, rfl, hg, hcur, hcap, hmx, hsz, htk⟩ := own_row hO hn
    have hmem : ∀ q ∈ E', q ∈ E := fun q hq => he2.mem_iff.1 hq
    obtain ⟨es, hes⟩ : ∃ es : List (El E), es.map Subtype.val = E' := lift_sub E' hmem
    have hesl : es.length = ds.length := by rw [← he1, ← hes, List.length_map, List.length_map]
    have hdig : digE es = ds := by rw [← he1, ← hes, List.map_map]; rfl
    have hin : ∃ x, x ∈ es := by
      cases es with
      | nil => exact absurd (List.length_eq_zero_iff.1 hesl.symm) hn
      | cons x es => exact ⟨x, by simp⟩
    obtain ⟨x0, _⟩ := hin
    letI : Inhabited (El E) := ⟨x0⟩
    have hflat := flat_all es
    rw [hdig] at hflat
    have hfs : (flatK encE 32 es.toArray).size = ds.length * 32 := by rw [size_flatK, List.size_toArray, hesl]
    have hgl := (Array.getElem?_eq_some_iff.1 hcur).1
    have hH : HoldsK encE 32 w g 0 es.toArray := fun j hj => by
      rw [hfs] at hj
      have hle : ds.length * 32 ≤ cap * 32 := Nat.mul_le_mul_right 32 hcap
      have h1 : cur[j]? = some (flatK encE 32 es.toArray)[j]! := by
        have h2 : (cur.toList.take (ds.length * 32))[j]? = cur.toList[j]? := List.getElem?_take_of_lt hj
        rw [htk, ← hflat] at h2
        rw [← Array.getElem?_toList, ← h2, Array.getElem?_toList, Array.getElem?_eq_getElem (by rw [hfs]; exact hj), getElem!_pos]
      exact ⟨by simp [World.cell?, hcur, h1], by simp [World.frozen?, hcur]⟩
    have hcmp : CmpLays Tryd.prog 40 #[.pointer (some ⟨B, 0, none⟩)] encE 32 cfE g 0 es.toArray.size w := fun m os dk hdk x y => by
      have hbl : ∀ k, k < base → (sortWorldK (encE (E := E)) 32 w g 0 m dk os).heap[k]? = w.heap[k]? := fun k hk => sort_block m dk os k (by omega) (by omega)
      exact (byKey_any F S r mb pin E x.1 y.1 B _ (hS.of_same (sort_size m dk os) fun k hk => hbl k (hF k hk)) (hB.of_block (hbl B hBb)) x.2 y.2).mono fun e w' h => ⟨h.1, h.2.grown⟩
    have hsmall : es.toArray.size < 4611686018427387904 := by rw [List.size_toArray, hesl]; omega
    have hcon := AnyQ.slices_SortFunc (α := El E) Tryd.sortD 32 Tryd.isAgg29 Tryd.sizeOf29 encE enc_len (fun x => u8s_one _) cfE swo_cf 40 #[.pointer (some ⟨B, 0, none⟩)] g 0 cap es.toArray w (enters_of Tryd.func40 (by kernel_rfl) rfl) hcmp hH hgl hsmall
    rw [List.size_toArray, hesl] at hcon
    refine hcon.mono ?_
    rintro e w' ⟨rfl, d', n, os, hperm, hsort, rfl⟩
    obtain ⟨hd1, hd2, hd3⟩ := hperm
    have hds' : d'.size = ds.length := by rw [hd1, List.size_toArray, hesl]
    have hpm : d'.toList.Perm es := by
      rw [Array.extract_eq_self_of_le (by omega), Array.extract_eq_self_of_le (by rw [List.size_toArray]; omega)] at hd3
      exact hd3
    have hM : d'.toList.map (fun x => x.1.1) = L := by
      refine sorted_is hL ?_ ?_
      · refine ((hpm.map _).trans ?_).trans hE
        have : es.map (fun x => x.1.1) = E'.map Prod.fst := by rw [← hes, List.map_map]; rfl
        rw [this]
        exact he2.map _
      · rw [List.pairwise_map, List.pairwise_iff_getElem]
        intro i j hi hj hij
        have hj' : j < d'.size := by simpa using hj
        have := hsort i j (Nat.zero_le _) hij (by omega)
        rw [getElem!_pos d' j hj', getElem!_pos d' i (by omega), lt_cf] at this
        simp only [decide_eq_false_iff_not, Nat.not_lt] at this
        simpa using this
    have hdl : digE d'.toList = L.map digS := by rw [← hM, List.map_map]; rfl
    have hfl : (flatK (encE (E := E)) 32 d').toList = kD.all (L.map digS) := by rw [← hdl, ← flat_all d'.toList]
    have hfs' : (flatK (encE (E := E)) 32 d').size = ds.length * 32 := by rw [size_flatK, hds']
    have hle : ds.length * 32 ≤ cap * 32 := Nat.mul_le_mul_right 32 hcap
    obtain ⟨q1, q2⟩ := put_cells (flatK (encE (E := E)) 32 d') cur (by omega)
    have hok : kD.AllOk (L.map digS) := fun x hx => by
      obtain ⟨y, _, rfl⟩ := List.mem_map.1 hx
      exact digS_ok _
    refine ⟨rfl, ⟨⟨Sl.all_len fD _ hok, .inr ⟨g, cap, _, rfl, hg, sort_row (E := E) n d' os hcur, by rw [List.length_map]; omega, hmx, by rw [q1, hsz], ?_⟩⟩, hok⟩, sort_below (E := E) n d' os hg hw⟩
    rw [List.length_map, ← hlen, ← hfl, ← q2, hfs']
end Go.Proofs.YtnjmocobncncdaaDoor.So
