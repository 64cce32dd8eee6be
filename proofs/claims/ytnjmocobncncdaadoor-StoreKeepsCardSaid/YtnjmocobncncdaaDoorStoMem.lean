/-
  The program's store in memory: a row, a map from digests to states of their own. Over this seat's translation.
-/
import Derived.Test.YtnjmocobncncdaaDoorStoGather
import Derived.Test.YtnjmocobncncdaaDoorOrdDrawn
import Derived.Test.YtnjmocobncncdaaDoorStoSpec
import Derived.Test.YtnjmocobncncdaaDoorFoot
import Derived.Test.YtnjmocobncncdaaDoorMemAll
import Derived.OrdersHeld
import Derived.Test.YtnjmocobncncdaaDoorCmp
namespace Go.Proofs.YtnjmocobncncdaaDoor.So
open Go.ChangeShapes Go.WideShapes Go.ChangeAt Go.RowKit Go.Proofs.YtnjmocobncncdaaDoor.Mem Go.Proofs.YtnjmocobncncdaaDoor.Bt Go.Proofs.YtnjmocobncncdaaDoor.Km
open Go.Proofs.YtnjmocobncncdaaDoor.Ep (H32 zh zh_ok Has h_len szH zH fitH allH one_app num32)
open Go.Proofs.YtnjmocobncncdaaDoor.Sl (Kind At bk)
open Go.Proofs.YtnjmocobncncdaaDoor.Sa (Sta scs digS digS_ok sz_sta h_drw h_lngth)
open Go.Proofs.YtnjmocobncncdaaDoor.Od (Ky kcs keyN keyN_ok kcs_len kcmp kval)
set_option linter.unusedVariables false
set_option linter.unusedSimpArgs false

section
variable {P : Program} {ops : Array Oper} {rest : List Oper} {o : Oper} {a : Act} {w : World} {Q : Exit → Act → World → Prop}
theorem arm_box1 (hgd : o.guard = none) (t : TypeId) (x : Operand) (ho : o.op = .box t x) (v : Value) (hx : a.eval x = v) (hc : v.cells = #[v])
    (h : ∀ b w2, Hid (b = w.heap.size) → Row w2 b t [v] → New w w2 → wpList P ops Q rest (a.put o.dst (.pointer (some ⟨b, 0, none⟩))) w2) : wpList P ops Q (o :: rest) a w := by
  refine wpList_plain hgd fun K hK => ?_
  have hr : (execOp a.eval o).run P w = .ok (.value (.pointer (some ⟨w.heap.size, 0, none⟩))) (w.alloc (.cells [v].toArray t)) := by
    unfold execOp
    simp [ho, hx, Instr.box, newVar, newRow, hc]
  unfold Oper.wp
  rw [hr]
  exact hK _ _ (h _ _ rfl (heap_alloc_new _ _) (new_alloc _ _))
end
def pcs (r mb : Nat) (pin : Option (List Nat)) : List Value := [.int .i64 (r : Int), .map (some mb)] ++ u8s (pin.getD zh) ++ [.bool pin.isSome]
theorem built_own (r mb : Nat) : Tryd.prog.built 67 [(0, .int .i64 (r : Int)), (1, .map (some mb))] = some (pcs r mb none).toArray := by kernel_rfl
def ptrV (b : Nat) : Value := .pointer (some ⟨b, 0, none⟩)
theorem und_map : Tryd.prog.underlying 65 = some (.map 29 71) := by kernel_rfl
theorem zero_ptr (w : World) : (zeroValue 71).run Tryd.prog w = .ok (.pointer none) w := by kernel_rfl
/-- A state's digest, its key's value. -/
abbrev vK (s : Sta) : Nat := kval (keyN s)
/-- States, each with where it stands. -/
abbrev Ents := List (Sta × Nat)
def entD (p : Sta × Nat) : List Nat × Nat := (digS p.1, p.2)
abbrev PMap (w : World) (mb : Nat) (E : Ents) : Prop := KMap w mb hashV ptrV hashOk (E.map entD)
structure SAt (w : World) (F : Nat → Prop) (S r mb : Nat) (pin : Option (List Nat)) (E : Ents) : Prop where
  row : Row w S 67 (pcs r mb pin)
  map : PMap w mb E
  st : ∀ p ∈ E, Row w p.2 41 (scs p.1)
  ok : ∀ p ∈ E, p.1.Ok
  pok : ∀ p, pin = some p → H32 p
  fS : F S
  fm : F mb
  fE : ∀ p ∈ E, F p.2
  lies : Lies F w
section
variable {w w' : World} {F G F' : Nat → Prop} {S r mb : Nat} {pin : Option (List Nat)} {E : Ents}
theorem SAt.of_same (h : SAt w F S r mb pin E) (hs : w.heap.size ≤ w'.heap.size) (hb : ∀ k, F k → w'.heap[k]? = w.heap[k]?) : SAt w' F S r mb pin E :=
  ⟨h.row.of_block (hb _ h.fS), h.map.of_block (hb _ h.fm), fun p hp => (h.st p hp).of_block (hb _ (h.fE p hp)), h.ok, h.pok, h.fS, h.fm, h.fE, h.lies.mono hs⟩
theorem SAt.chg (h : SAt w F S r mb pin E) (c : Chg G w w') (hs : Sep G F) : SAt w' F S r mb pin E := h.of_same c.size fun k hk => c.block k (h.lies k hk) fun e => hs k e hk
theorem SAt.old (h : SAt w F S r mb pin E) (hb : Below w.heap.size w w') : SAt w' F S r mb pin E := h.of_same hb.size fun k hk => hb.block k (h.lies k hk)
theorem SAt.only {c : Nat} (h : SAt w F S r mb pin E) (ho : Only c w w') (hn : ¬ F c) : SAt w' F S r mb pin E := h.of_same ho.size fun k hk => ho.block k (h.lies k hk) fun e => hn (e ▸ hk)
theorem pin_ok' (h : ∀ p, pin = some p → H32 p) : H32 (pin.getD zh) := by
  cases pin with
  | none => exact zh_ok
  | some p => exact h p rfl
theorem ent_hash (h : SAt w F S r mb pin E) : ∀ p ∈ E.map entD, H32 p.1 := fun p hp => by
  obtain ⟨q, _, rfl⟩ := List.mem_map.1 hp
  exact digS_ok q.1
theorem ent_nodup (h : SAt w F S r mb pin E) : (E.map fun p => digS p.1).Nodup := by
  have := h.map.nodup
  rwa [List.map_map] at this
theorem look_ent (hn : (E.map fun p => digS p.1).Nodup) {p : Sta × Nat} (hp : p ∈ E) : Km.look (E.map entD) (digS p.1) = some p.2 :=
  Km.look_at (by rw [List.map_map]; exact hn) (List.mem_map.2 ⟨p, hp, rfl⟩)
theorem look_no {h : List Nat} (hn : ∀ p ∈ E, digS p.1 ≠ h) : Km.look (E.map entD) h = none :=
  Km.look_none.2 fun q hq => by
    obtain ⟨p, hp, rfl⟩ := List.mem_map.1 hq
    exact hn p hp
theorem S_ne_m (h : SAt w F S r mb pin E) : S ≠ mb := fun e => h.map.row h.row e.symm
theorem st_ne_S (h : SAt w F S r mb pin E) {p : Sta × Nat} (hp : p ∈ E) : p.2 ≠ S := (h.st p hp).ne_type h.row (by decide)
theorem st_ne_m (h : SAt w F S r mb pin E) {p : Sta × Nat} (hp : p ∈ E) : p.2 ≠ mb := fun e => h.map.row (h.st p hp) e.symm
end
/-- The store, by what is kept, in the order of the keys. -/
structure PAt (w : World) (F : Nat → Prop) (S r : Nat) (pin : Option (List Nat)) (L : List Sta) : Prop where
  ex : ∃ mb E, SAt w F S r mb pin E ∧ (E.map Prod.fst).Perm L
  ok : SOk vK digS r pin L
section
variable {w w' : World} {F G F' : Nat → Prop} {S r : Nat} {pin : Option (List Nat)} {L : List Sta}
theorem PAt.chg (h : PAt w F S r pin L) (c : Chg G w w') (hs : Sep G F) : PAt w' F S r pin L := by
  obtain ⟨mb, E, hS, hp⟩ := h.ex
  exact ⟨⟨mb, E, hS.chg c hs, hp⟩, h.ok⟩
theorem PAt.old (h : PAt w F S r pin L) (hb : Below w.heap.size w w') : PAt w' F S r pin L := by
  obtain ⟨mb, E, hS, hp⟩ := h.ex
  exact ⟨⟨mb, E, hS.old hb, hp⟩, h.ok⟩
theorem PAt.lies (h : PAt w F S r pin L) : Lies F w := by
  obtain ⟨mb, E, hS, hp⟩ := h.ex
  exact hS.lies
theorem PAt.states (h : PAt w F S r pin L) : ∀ x ∈ L, x.Ok := by
  obtain ⟨mb, E, hS, hp⟩ := h.ex
  intro x hx
  obtain ⟨p, hpE, rfl⟩ := List.mem_map.1 (hp.mem_iff.2 hx)
  exact hS.ok p hpE
end
end Go.Proofs.YtnjmocobncncdaaDoor.So
