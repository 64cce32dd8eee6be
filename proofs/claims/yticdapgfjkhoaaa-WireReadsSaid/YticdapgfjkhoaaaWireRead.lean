/-
  A reader's memory: its struct, and the bytes that are left; the contracts of wire's Reader (fail, take, number, Byte, Num, Long, Left, End), over this seat's translation.
-/
import Derived.Test.YticdapgfjkhoaaaWireHash
namespace Go.Proofs.Yticdapgfjkhoaaa.Wi
open Go.ChangeShapes Go.WideShapes Go.ChangeAt Go.RowKit Go.Proofs.Yticdapgfjkhoaaa.Mem Go.Proofs.Yticdapgfjkhoaaa.Bt Go.Proofs.Yticdapgfjkhoaaa.Tg
set_option linter.unusedVariables false

theorem blk_on (p : Option Addr) (k cap : Nat) : blk (onP p k cap) = blk p := by
  unfold onP
  split
  · rfl
  · cases p with
    | none => rfl
    | some ad => simp only [blk, Option.map_some, Addr.add]; split <;> rfl
/-- A part of what can be read can be read. -/
theorem Rd_take {w : World} {p : Option Addr} {bs : List Nat} (h : Rd w p bs) (k : Nat) : Rd w p (bs.take k) := ⟨fun hne => by
  have hb : bs ≠ [] := by intro e; rw [e] at hne; simp at hne
  obtain ⟨g, o, e, hr⟩ := h.at_ hb
  refine ⟨g, o, e, fun j v hj => hr j v ?_⟩
  have hj2 := (List.getElem?_eq_some_iff.1 hj).1
  rw [u8s_length, List.length_take] at hj2
  unfold u8s at hj ⊢
  rw [List.getElem?_map, List.getElem?_take, if_pos (by omega)] at hj
  rw [List.getElem?_map]; exact hj⟩
theorem Rd_drop {w : World} {p : Option Addr} {bs : List Nat} {cap : Nat} (h : Rd w p bs) (k : Nat) (hc : bs.length ≤ cap) : Rd w (onP p k cap) (bs.drop k) := ⟨fun hne => by
  have hk : k < bs.length := by
    rcases Nat.lt_or_ge k bs.length with h | h
    · exact h
    · exact absurd (List.drop_eq_nil_of_le h) hne
  have hb : bs ≠ [] := by intro e; rw [e] at hk; simp at hk
  obtain ⟨g, o, e, hr⟩ := h.at_ hb
  refine ⟨g, o + k, by rw [e]; exact onP_some g o k cap (by omega), fun j v hj => ?_⟩
  rw [Nat.add_assoc]
  refine hr (k + j) v ?_
  unfold u8s at hj ⊢
  rw [List.getElem?_map, List.getElem?_drop] at hj
  rw [List.getElem?_map]; exact hj⟩
/-- A block without bytes is none that bytes lie in. -/
theorem Rd_only {w w' : World} {R : Nat} {t : TypeId} {cs : List Value} {p : Option Addr} {bs : List Nat} (h : Rd w p bs) (hr : Row w R t cs) (hno : ∀ (i : Nat) (n : Int), cs[i]? ≠ some (.int .u8 n)) (ho : Only R w w') : Rd w' p bs := ⟨fun hne => by
  obtain ⟨g, o, e, hg⟩ := h.at_ hne
  have hne8 : u8s bs ≠ [] := by intro h; apply hne; simpa [u8s] using h
  refine ⟨g, o, e, range_block hg (ho.block g (range_lt hg hne8) (fun eR => ?_))⟩
  subst eR
  obtain ⟨v, hv⟩ : ∃ v, bs[0]? = some v := ⟨_, List.getElem?_eq_getElem (List.length_pos_iff.2 hne)⟩
  have := hg 0 (.int .u8 (v : Int)) (by simp [u8s, hv])
  simp only [World.cell?, show w.heap[g]? = _ from hr] at this
  exact hno (o + 0) v (by simpa using this)⟩
def rcells (p : Option Addr) (cap : Nat) (s : RS) : List Value := [.slice p s.1.length cap, .int .i64 (s.2 : Int)]
theorem rcells_no (p : Option Addr) (cap : Nat) (s : RS) : ∀ (i : Nat) (n : Int), (rcells p cap s)[i]? ≠ some (.int .u8 n) := by
  intro i n
  match i with
  | 0 => simp [rcells]
  | 1 => simp [rcells]
  | i + 2 => simp [rcells]
/-- A reader in this state. -/
structure Rr (w : World) (R d : Nat) (p : Option Addr) (cap : Nat) (s : RS) : Prop where
  row : Row w R 67 (rcells p cap s)
  rd : Rd w p s.1
  le : s.1.length ≤ cap
  nil_ : p = none → cap = 0
  lt : AllLt 256 s.1
  blk_ : ∀ k, blk p = some k → k = d
  dlt : d < w.heap.size
structure RdAt (w : World) (R d : Nat) (s : RS) : Prop where
  ex : ∃ p cap, Rr w R d p cap s
theorem RdAt.row_lt {w : World} {R d : Nat} {s : RS} (h : RdAt w R d s) : R < w.heap.size := by obtain ⟨p, cap, h⟩ := h.ex; exact h.row.lt
theorem RdAt.old {w w' : World} {R d : Nat} {s : RS} (h : RdAt w R d s) (hb : Below w.heap.size w w') : RdAt w' R d s := by
  obtain ⟨p, cap, h⟩ := h.ex
  exact ⟨p, cap, h.row.old hb, h.rd.below hb, h.le, h.nil_, h.lt, h.blk_, Nat.lt_of_lt_of_le h.dlt hb.size⟩
/-- Another struct has changed. -/
theorem RdAt.only {w w' : World} {R d S : Nat} {s : RS} {t : TypeId} {cs : List Value} (h : RdAt w R d s) (hr : Row w S t cs) (hno : ∀ (i : Nat) (n : Int), cs[i]? ≠ some (.int .u8 n)) (ho : Only S w w') (hne : R ≠ S) : RdAt w' R d s := by
  obtain ⟨p, cap, h⟩ := h.ex
  exact ⟨p, cap, h.row.only ho hne, Rd_only h.rd hr hno ho, h.le, h.nil_, h.lt, h.blk_, Nat.lt_of_lt_of_le h.dlt ho.size⟩
/-- A block that is neither the struct's nor the bytes' has changed. -/
theorem RdAt.other {w w' : World} {R d S : Nat} {s : RS} (h : RdAt w R d s) (ho : Only S w w') (hne : R ≠ S) (hd : d ≠ S) : RdAt w' R d s := by
  obtain ⟨p, cap, h⟩ := h.ex
  refine ⟨p, cap, h.row.only ho hne, ⟨fun hb => ?_⟩, h.le, h.nil_, h.lt, h.blk_, Nat.lt_of_lt_of_le h.dlt ho.size⟩
  obtain ⟨g, o, e, hr⟩ := h.rd.at_ hb
  have hg : g = d := h.blk_ g (by rw [e]; rfl)
  have hne8 : u8s s.1 ≠ [] := by intro h; apply hb; simpa [u8s] using h
  exact ⟨g, o, e, range_block hr (ho.block g (range_lt hr hne8) (by omega))⟩
theorem RdAt.dlt {w : World} {R d : Nat} {s : RS} (h : RdAt w R d s) : d < w.heap.size := by obtain ⟨p, cap, h⟩ := h.ex; exact h.dlt
theorem RdAt.lt {w : World} {R d : Nat} {s : RS} (h : RdAt w R d s) : AllLt 256 s.1 := by obtain ⟨p, cap, h⟩ := h.ex; exact h.lt
/-- What a call of a reader leaves. -/
structure RdPost (w : World) (R d : Nat) (v : Value) (s : RS) (e : Ending) (w' : World) : Prop where
  ret : e = .returned v
  at_ : RdAt w' R d s
  only : Only R w w'

set_option maxRecDepth 100000 in
theorem rFail_any (c R d : Nat) (s : RS) (w : World) (h : RdAt w R d s) :
    Calls Try.prog 37 #[.pointer (some ⟨R, 0, none⟩), .int .i64 (c : Int)] w (RdPost w R d (.tuple #[]) ([], failed s.2 c)) := by
  obtain ⟨p, cap, h⟩ := h.ex
  have H := Lib.hid h
  have hc : w.cell? ⟨R, 1, none⟩ = some (.int .i64 (s.2 : Int)) := h.row.cell rfl
  have HR := Lib.hid h.row
  clear h
  by_cases he : s.2 = 0
  · have hz : (((s.2 : Nat) : Int) == 0) = true := by rw [he]; rfl
    have HE : Hid (failed s.2 c = c) := Lib.hid (by unfold failed; rw [if_pos he])
    clear he
    go_enter Try.func37, Try.ntmps37
    go_wp2_with (first
      | ((with_reducible refine arm_storeV (o := ⟨none, .store 43 _ _, _, _, _, _⟩) rfl _ _ _ rfl R 1 rfl _ rfl rfl (by kernel_rfl) _ _ HR.out (by unfold rcells; rw [List.length_cons, List.length_singleton]; omega) ?_); intro w1 hR1 hO1 hZ1)
      | ((with_reducible refine arm_storeV (o := ⟨none, .store 26 _ _, _, _, _, _⟩) rfl _ _ _ rfl R 0 rfl _ rfl rfl (by kernel_rfl) _ _ hR1 (by unfold rcells; rw [List.length_set, List.length_cons, List.length_singleton]; omega) ?_); intro w2 hR2 hO2 hZ2))
    go_end0
    exact ⟨rfl, ⟨none, 0, by rw [HE.out]; exact hR2, ⟨fun h => absurd rfl h⟩, Nat.le_refl _, fun _ => rfl, fun x hx => (by cases hx), fun k hk => (by cases hk), Nat.lt_of_lt_of_le H.out.dlt (hO1.trans hO2).size⟩, hO1.trans hO2⟩
  · have hz : (((s.2 : Nat) : Int) == 0) = false := by simp; omega
    have HE : Hid (failed s.2 c = s.2) := Lib.hid (by unfold failed; rw [if_neg he])
    clear he
    go_enter Try.func37, Try.ntmps37
    go_wp2_with (first
      | ((with_reducible refine arm_storeV (o := ⟨none, .store 26 _ _, _, _, _, _⟩) rfl _ _ _ rfl R 0 rfl _ rfl rfl (by kernel_rfl) _ _ HR.out (by unfold rcells; rw [List.length_cons, List.length_singleton]; omega) ?_); intro w2 hR2 hO2 hZ2))
    go_end0
    exact ⟨rfl, ⟨none, 0, by rw [HE.out]; exact hR2, ⟨fun h => absurd rfl h⟩, Nat.le_refl _, fun _ => rfl, fun x hx => (by cases hx), fun k hk => (by cases hk), Nat.lt_of_lt_of_le H.out.dlt hO2.size⟩, hO2⟩

/-- What take leaves. -/
structure TakePost (w : World) (R d k : Nat) (s : RS) (e : Ending) (w' : World) : Prop where
  ex : ∃ q c, e = .returned (.slice q (takeR k s).1.length c) ∧ Rd w' q (takeR k s).1 ∧ (q = none → (takeR k s).1.length = 0 ∧ c = 0)
  at_ : RdAt w' R d (takeR k s).2
  only : Only R w w'
theorem mem_lt_take {bs : List Nat} (h : AllLt 256 bs) (k : Nat) : AllLt 256 (bs.take k) := fun x hx => h x (List.mem_of_mem_take hx)
theorem takeR_lt {k : Nat} {s : RS} (h : AllLt 256 s.1) : AllLt 256 (takeR k s).1 := by
  unfold takeR; split
  · exact mem_lt_take h k
  · intro x hx; cases hx
theorem takeR_len (k : Nat) (s : RS) : (takeR k s).1.length ≤ k := by
  unfold takeR; split
  · simp; omega
  · simp
set_option maxRecDepth 100000 in
theorem rTake_any (k R d : Nat) (s : RS) (w : World) (h : RdAt w R d s) (hk : k ≤ 1000000) (hm : s.1.length ≤ 1000000) :
    Calls Try.prog 36 #[.pointer (some ⟨R, 0, none⟩), .int .i64 (k : Int)] w (TakePost w R d k s) := by
  obtain ⟨p, cap, h⟩ := h.ex
  have H := Lib.hid h
  have hc : w.cell? ⟨R, 0, none⟩ = some (.slice p s.1.length cap) := h.row.cell rfl
  have hle := h.le
  clear h
  by_cases hs : k ≤ s.1.length
  · have hd : decide ((s.1.length : Int) < (k : Int)) = false := decide_eq_false (by omega)
    have HT : Hid (takeR k s = (s.1.take k, (s.1.drop k, s.2))) := Lib.hid (by unfold takeR; rw [if_pos hs])
    go_enter Try.func36, Try.ntmps36
    go_wp2_with (first
      | ((with_reducible refine at_slot 21 ?_); (refine arm_slice3 (o := ⟨some 21, _, _, _, _, _⟩) rfl _ _ _ _ rfl 5 (by kernel_rfl) (by kernel_rfl) p s.1.length cap rfl .i64 .i64 (k : Int) rfl rfl k rfl (by omega) ?_))
      | ((with_reducible refine at_slot 28 ?_); (refine arm_tail (o := ⟨some 28, _, _, _, _, _⟩) rfl _ _ _ rfl 5 (by kernel_rfl) (by kernel_rfl) p s.1.length cap rfl .i64 (k : Int) rfl k rfl hs ?_))
      | ((with_reducible refine arm_storeV (o := ⟨none, .store 26 _ _, _, _, _, _⟩) rfl _ _ _ rfl R 0 rfl _ rfl rfl (by kernel_rfl) _ _ H.out.row (by unfold rcells; rw [List.length_cons, List.length_singleton]; omega) ?_); intro w2 hR2 hO2 hZ2))
    go_ret
    have hl1 : (s.1.take k).length = k := by rw [List.length_take]; omega
    have hno := rcells_no p cap s
    refine ⟨⟨p, k, by rw [HT.out, hl1]; rfl, by rw [HT.out]; exact Rd_only (Rd_take H.out.rd k) H.out.row hno hO2, fun e => ?_⟩, ⟨onP p k cap, cap - k, ?_⟩, hO2⟩
    · have := H.out.nil_ e
      rw [HT.out, hl1]; omega
    · rw [HT.out]
      refine ⟨?_, Rd_only (Rd_drop H.out.rd k hle) H.out.row hno hO2, by simp only [List.length_drop]; omega, fun e => ?_, fun x hx => H.out.lt x (List.mem_of_mem_drop hx), fun b hb => H.out.blk_ b (by rw [← hb, blk_on]), Nat.lt_of_lt_of_le H.out.dlt hO2.size⟩
      · unfold rcells; rw [List.length_drop]; exact hR2
      · cases p with
        | none => have := H.out.nil_ rfl; omega
        | some ad => unfold onP at e; split at e <;> simp at e
  · have hd : decide ((s.1.length : Int) < (k : Int)) = true := decide_eq_true (by omega)
    have HT : Hid (takeR k s = ([], ([], failed s.2 3))) := Lib.hid (by unfold takeR; rw [if_neg hs])
    go_enter Try.func36, Try.ntmps36
    go_wp2_with fail
    refine (rFail_any 3 R d s w ⟨p, cap, H.out⟩).mono ?_
    rintro e w1 ⟨rfl, hA, hO⟩
    go_wp2_with fail
    go_ret
    exact ⟨⟨none, 0, by rw [HT.out]; rfl, by rw [HT.out]; exact ⟨fun h => absurd rfl h⟩, fun _ => by rw [HT.out]; exact ⟨rfl, rfl⟩⟩, by rw [HT.out]; exact hA, hO⟩
end Go.Proofs.Yticdapgfjkhoaaa.Wi
