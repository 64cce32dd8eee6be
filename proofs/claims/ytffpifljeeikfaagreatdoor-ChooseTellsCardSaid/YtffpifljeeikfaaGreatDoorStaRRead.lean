/-
  The contracts of the document's back and Read of layer 9, over this seat's translation.
-/
import Derived.Test.YtffpifljeeikfaaGreatDoorStaMade
import Derived.Test.YtffpifljeeikfaaGreatDoorStaRRight
import Derived.Test.YtffpifljeeikfaaGreatDoorStaDo
import Derived.Test.YtffpifljeeikfaaGreatDoorWireRefAll
namespace Go.Proofs.YtffpifljeeikfaaGreatDoor.Sa
open Go.ChangeShapes Go.WideShapes Go.ChangeAt Go.RowKit Go.Proofs.YtffpifljeeikfaaGreatDoor.Mem Go.Proofs.YtffpifljeeikfaaGreatDoor.Bt Go.Proofs.YtffpifljeeikfaaGreatDoor.Wi Go.Proofs.YtffpifljeeikfaaGreatDoor.Tg Go.Proofs.YtffpifljeeikfaaGreatDoor.Rg
open Go.Proofs.YtffpifljeeikfaaGreatDoor.Ep (H32 Dat zh zh_ok num32 dcs dcs_len dcs_one zd zd_ok Has h_len one_app one_num szH set_lay z_rdat sz_rdat)
set_option linter.unusedVariables false
set_option linter.unusedSimpArgs false

/-! ### Some fields at once. -/
def mC (s : Sta) (i n : Nat) : List Value := (List.range' i n).flatMap (fC s)
theorem mC_step (s : Sta) (i n : Nat) : mC s i (n + 1) = fC s i ++ mC s (i + 1) n := by unfold mC; rw [List.range'_succ, List.flatMap_cons]
theorem dC_many (s : Sta) : ∀ (n i : Nat), i + n ≤ 22 → dC s i = mC s i n ++ dC s (i + n)
  | 0, i, h => rfl
  | n + 1, i, h => by
    rw [dC_step (by omega), mC_step, dC_many s n (i + 1) (by omega), List.append_assoc, show i + 1 + n = i + (n + 1) by omega]
theorem cP_many (s : Sta) : ∀ (n i : Nat), cP s (i + n) = cP s i ++ mC s i n
  | 0, i => by rw [show mC s i 0 = [] from rfl, List.append_nil]; rfl
  | n + 1, i => by
    rw [mC_step, ← List.append_assoc, show cP s i ++ fC s i = cP s (i + 1) from rfl, ← cP_many s n (i + 1), show i + 1 + n = i + (n + 1) by omega]
theorem mC_len {s z : Sta} (k : s.Ok) (j : z.Ok) : ∀ (n i : Nat), (mC s i n).length = (mC z i n).length
  | 0, i => rfl
  | n + 1, i => by rw [mC_step, mC_step, List.length_append, List.length_append, fC_len k, fC_len j, mC_len k j n (i + 1)]
theorem mix_many {s z : Sta} (k : s.Ok) (j : z.Ok) (i n : Nat) (h : i + n ≤ 22) (vs : List Value) (hv : vs = mC s i n) (o : Nat) (ho : o = off i) : lay (mixC s z i) o vs = mixC s z (i + n) := by
  subst hv ho
  unfold mixC
  rw [dC_many z n i h]
  have h1 : lay (cP s i ++ (mC z i n ++ dC z (i + n))) (off i) (mC s i n) = cP s i ++ lay (mC z i n ++ dC z (i + n)) 0 (mC s i n) := lay_skip (cP s i) (mC z i n ++ dC z (i + n)) (mC s i n) 0 (cP_len k i)
  rw [h1, lay_head _ _ _ (mC_len k j n i), cP_many s n i, List.append_assoc]
theorem mC_ring {s : Sta} (k : s.Ok) : rcs s.last s.counts = mC s 7 5 := by
  have hc := counts_eq k
  unfold rcs
  rw [hc]
  simp [mC, List.range', fC, isH, nF, u32s, num32]
theorem mC_now (s : Sta) : dcs s.now = mC s 12 5 := by simp [mC, List.range', fC, isH, nF, hF, dcs]
theorem mC_next (s : Sta) : dcs s.next = mC s 17 5 := by simp [mC, List.range', fC, isH, nF, hF, dcs]
/-! ### An epoch's data. -/
def backR (s : RS) : Dat × RS :=
  let a := hashR s; let b := hashR a.2; let c := hashR b.2; let d := hashR c.2; let n := numR 4 d.2
  (⟨a.1, b.1, c.1, d.1, n.1⟩, n.2)
theorem backR_now (b : List Nat) : backR (qs b 12) = ((staR b).now, qs b 17) := rfl
theorem backR_next (b : List Nat) : backR (qs b 17) = ((staR b).next, qs b 22) := rfl
theorem left_ok {s : RS} (h : AllLt 256 s.1) : AllLt 256 (hashR s).2.1 := take_left 32 s h
section
attribute [local irreducible] hashR numR
theorem backR_ok {s : RS} (h : AllLt 256 s.1) : (backR s).1.Ok := by
  have h1 := left_ok h; have h2 := left_ok h1; have h3 := left_ok h2; have h4 := left_ok h3
  exact ⟨hashR_ok h, hashR_ok h1, hashR_ok h2, hashR_ok h3, numR_lt4 h4⟩
end
theorem nv_def (b : List Nat) (i : Nat) : nv b i = (numR 4 (qs b i)).1 := rfl
theorem hv_def (b : List Nat) (i : Nat) : hv b i = (hashR (qs b i)).1 := rfl
theorem abs_zero (b : List Nat) : absR b 0 0 = qs b 0 := by rw [absR_ok, List.drop_zero]; rfl
theorem fCR_h {b : List Nat} {i : Nat} (hi : i < 22) (h : isH i = true) : fC (staR b) i = u8s (hv b i) := by rw [fC_h h, hF_R hi h]
theorem fCR_n {b : List Nat} {i : Nat} (hi : i < 22) (h : isH i = false) : fC (staR b) i = [num32 (nv b i)] := by rw [fC_n h, nF_R hi h]
theorem four_int : (.int .i64 4 : Value) = .int .i64 ((4 : Nat) : Int) := rfl
/-! ### The state. -/
/-- Where it lies. -/
structure Lq (w : World) (R F S : Nat) : Prop where
  r : w.heap.size ≤ R
  f : w.heap.size ≤ F
  s : w.heap.size ≤ S
  rf : R ≠ F
  rs : R ≠ S
  sf : S ≠ F
section
variable {w wr wa wb : World} {R F S : Nat} {b : List Nat} {i n : Nat}
end
/-- The counts while they are read. -/
def cntQ (b : List Nat) (j : Nat) : List Nat := [if 0 < j then nv b 8 else 0, if 1 < j then nv b 9 else 0, if 2 < j then nv b 10 else 0, if 3 < j then nv b 11 else 0]
theorem four_of {j : Nat} (h : j < 4) : j = 0 ∨ j = 1 ∨ j = 2 ∨ j = 3 := by omega
theorem cnt_at (b : List Nat) (j : Nat) : nv b (7 + (1 + j)) = nv b (8 + j) := by rw [show 7 + (1 + j) = 8 + j by omega]
theorem cnt_not {j : Nat} (h : j < 4) : isH (7 + (1 + j)) = false := by rcases four_of h with rfl | rfl | rfl | rfl <;> rfl
section
attribute [local irreducible] qs hv nv hashR numR
theorem staR_counts (b : List Nat) : cntQ b 4 = (staR b).counts := by
  unfold cntQ
  rw [if_pos (by decide), if_pos (by decide), if_pos (by decide), if_pos (by decide)]
  rfl
theorem staR_last (b : List Nat) : (staR b).last = nv b 7 := rfl
end
section
attribute [local irreducible] qs hv nv hashR numR staR endR
theorem cnt_set (b : List Nat) {j : Nat} (h : j < 4) : (cntQ b j).set j (nv b (7 + (1 + j))) = cntQ b (j + 1) := by rcases four_of h with rfl | rfl | rfl | rfl <;> rfl
end
end Go.Proofs.YtffpifljeeikfaaGreatDoor.Sa
