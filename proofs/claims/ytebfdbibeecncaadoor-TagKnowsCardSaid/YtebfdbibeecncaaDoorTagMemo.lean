/-
  The contracts of tag's Memo: NewMemo and Known, over this seat's translation; what a memo is in memory.
-/
import Derived.Test.YtebfdbibeecncaaDoorTagOf
import Derived.Test.YtebfdbibeecncaaDoorBuild
namespace Go.Proofs.YtebfdbibeecncaaDoor.Tg
open Go.ChangeShapes Go.WideShapes Go.ChangeAt Go.RowKit Go.Proofs.YtebfdbibeecncaaDoor.Num Go.Proofs.YtebfdbibeecncaaDoor.Mem Go.Proofs.YtebfdbibeecncaaDoor.Bt Go.Proofs.YtebfdbibeecncaaDoor.Sha Go.Proofs.YtebfdbibeecncaaDoor.Mp
set_option linter.unusedVariables false

/-- The digest of a name and a digest. -/
def keyD (x : Key) : List Nat := tagD x.1 [x.2]
def dV (x : Key) : Value := .agg (u8s (keyD x)).toArray
theorem keyD_len (x : Key) : (keyD x).length = 32 := tagD_len _ _
/-- A memo that knows the digests of these. -/
structure MemoAt (w : World) (M b : Nat) (room : Int) (K : List Key) : Prop where
  row : Row w M 53 [.int .i64 room, .map (some b)]
  map_ : MapAt w b keyV (K.map fun x => (x, dV x))
  ok_ : ∀ x ∈ K, keyOk x
theorem MemoAt.old {w w' : World} {M b : Nat} {room : Int} {K : List Key} (h : MemoAt w M b room K) (hb : Below w.heap.size w w') : MemoAt w' M b room K := ⟨h.row.old hb, h.map_.old hb, h.ok_⟩
theorem MemoAt.only {w w' : World} {M b c : Nat} {room : Int} {K : List Key} (h : MemoAt w M b room K) (ho : Only c w w') (h1 : M ≠ c) (h2 : b ≠ c) : MemoAt w' M b room K := ⟨h.row.only ho h1, h.map_.only ho h2, h.ok_⟩
theorem MemoAt.apart {w : World} {M b : Nat} {room : Int} {K : List Key} (h : MemoAt w M b room K) : b ≠ M := h.map_.row h.row
theorem look_mem {α : Type} [DecidableEq α] (f : α → Value) (x : α) : ∀ K : List α, x ∈ K → Mp.look (K.map fun y => (y, f y)) x = some (f x)
  | y :: K, h => by
    unfold Mp.look
    by_cases hy : y = x
    · subst hy; simp
    · have ih := look_mem f x K ((List.mem_cons.1 h).resolve_left fun e => hy e.symm)
      unfold Mp.look at ih
      rw [List.map_cons, List.find?_cons]
      simp only [hy, decide_false, ih]
theorem look_not {α : Type} [DecidableEq α] (f : α → Value) (x : α) (K : List α) (h : x ∉ K) : Mp.look (K.map fun y => (y, f y)) x = none := by
  rw [look_none]
  intro p hp
  obtain ⟨y, hy, rfl⟩ := List.mem_map.1 hp
  rintro rfl
  exact h hy
theorem key_tag : KeyType 55 := ⟨by kernel_rfl, by kernel_rfl, ⟨(Tryd.prog.fieldsOf 55)[0]!, (Tryd.prog.fieldsOf 55)[1]!, by kernel_rfl, of_decide_eq_true (by kernel_rfl), of_decide_eq_true (by kernel_rfl), by kernel_rfl, by kernel_rfl, by kernel_rfl, by kernel_rfl⟩⟩
theorem kind_tag : KeyKind Tryd.prog 55 keyV keyOk := key_kind _ key_tag
theorem und_map : Tryd.prog.underlying 51 = some (.map 55 32) := by kernel_rfl
theorem zero_hash (w : World) : (zeroValue 32).run Tryd.prog w = .ok (.agg (u8s (List.replicate 32 0)).toArray) w := by kernel_rfl

/-- What NewMemo leaves. -/
structure NewMemoPost (w : World) (room : Int) (e : Ending) (w' : World) : Prop where
  ex : ∃ M b, e = .returned (.pointer (some ⟨M, 0, none⟩)) ∧ w.heap.size ≤ M ∧ w.heap.size ≤ b ∧ MemoAt w' M b room []
  bel : Below w.heap.size w w'
set_option maxRecDepth 100000 in
theorem newMemo_any (room : Int) (w : World) : Calls Tryd.prog 13 #[.int .i64 room] w (NewMemoPost w room) := by
  go_enter Tryd.func13, Tryd.ntmps13
  go_wp2_with (first
    | ((with_reducible refine at_slot 4 ?_); (refine arm_makeMap (o := ⟨some 4, _, _, _, _, _⟩) rfl _ rfl keyV ?_); intro b w1 hb hm hN1)
    | ((with_reducible refine at_slot 5 ?_); (refine arm_build (o := ⟨some 5, _, _, _, _, _⟩) rfl _ _ rfl [.int .i64 room, .map (some b)] (by kernel_rfl) ?_))
    | ((with_reducible refine at_slot 6 ?_); (refine arm_box (o := ⟨some 6, _, _, _, _, _⟩) rfl _ _ rfl [.int .i64 room, .map (some b)] rfl ?_); intro M w2 hM hR hN2))
  have e1 := hb.out; have e2 := hM.out; have s1 := hN1.size
  go_ret
  exact ⟨⟨M, b, rfl, by omega, by omega, ⟨hR, hm.old hN2.below, fun x hx => by cases hx⟩⟩, below_step hN1.below (by omega) hN2.below⟩
set_option maxRecDepth 100000 in
theorem known_any (M b : Nat) (room : Int) (K : List Key) (w : World) (h : MemoAt w M b room K) :
    Calls Tryd.prog 15 #[.pointer (some ⟨M, 0, none⟩)] w fun e w' => e = .returned (.int .i64 (K.length : Int)) ∧ w = w' := by
  have c1 : w.cell? ⟨M, 1, none⟩ = some (.map (some b)) := h.row.cell rfl
  have HM := Lib.hid h.map_
  clear h
  go_enter Tryd.func15, Tryd.ntmps15
  go_wp2_with (first
    | ((with_reducible refine at_slot 7 ?_); (refine arm_len (o := ⟨some 7, _, _, _, _, _⟩) rfl _ _ rfl rfl HM.out und_map ?_); rw [List.length_map]))
  go_ret
  exact ⟨rfl, rfl⟩
/-- How a key is built. -/
theorem shape_key (parts : List (Nat × Value)) : Tryd.prog.built 55 parts = Instr.fill (fun i => (#[(0, 1), (1, 32)] : Array (Nat × Nat))[i]?) ((Value.string ⟨#[]⟩ :: u8s (List.replicate 32 0)) : List Value).toArray parts := by kernel_rfl
theorem built_key (x : Key) (hx : keyOk x) : Tryd.prog.built 55 [(0, .string x.1), (1, .agg (u8s x.2).toArray)] = some (keyCells x).toArray := by
  have hl : (u8s x.2).length = 32 := by rw [u8s_length]; exact hx
  have hz : (u8s (List.replicate 32 0)).length = 32 := by rw [u8s_length]; simp
  rw [shape_key, fill_step _ _ 0 0 1 (.string x.1) [.string x.1] _ rfl rfl rfl (by simp)]
  have e1 : lay (Value.string ⟨#[]⟩ :: u8s (List.replicate 32 0)) 0 [.string x.1] = .string x.1 :: u8s (List.replicate 32 0) := by simp [lay]
  rw [e1, fill_step _ _ 1 1 32 (.agg (u8s x.2).toArray) (u8s x.2) _ rfl rfl hl (by rw [List.length_cons, hz]; omega), fill_done]
  congr 2
  unfold lay keyCells
  rw [hl, List.drop_eq_nil_of_le (by rw [List.length_cons, hz]; omega), List.append_nil]
  rfl
theorem z_key : Mem.Zero Tryd.prog 55 (Value.string ⟨#[]⟩ :: u8s (List.replicate 32 0)) := by unfold Mem.Zero; kernel_rfl
theorem sz_key : Sized Tryd.prog 55 33 := ⟨.struct (Tryd.prog.fieldsOf 55), by kernel_rfl, rfl, by kernel_rfl⟩
theorem keyCells_len (x : Key) (hx : keyOk x) : (keyCells x).length = 33 := by unfold keyCells; rw [List.length_cons, u8s_length, show x.2.length = 32 from hx]
end Go.Proofs.YtebfdbibeecncaaDoor.Tg
