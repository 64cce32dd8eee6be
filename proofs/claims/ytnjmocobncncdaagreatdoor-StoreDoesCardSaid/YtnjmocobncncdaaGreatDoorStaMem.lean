/-
  Protocol states as cells and as bytes, field by field: what stands where, what writing leaves, what reading makes of bytes. Over this seat's translation.
-/
import Derived.Test.YtnjmocobncncdaaGreatDoorEpoAll
import Derived.Test.YtnjmocobncncdaaGreatDoorWinAll
import Derived.Test.YtnjmocobncncdaaGreatDoorWireAll
namespace Go.Proofs.YtnjmocobncncdaaGreatDoor.Sa
open Go.ChangeShapes Go.WideShapes Go.ChangeAt Go.RowKit Go.Proofs.YtnjmocobncncdaaGreatDoor.Mem Go.Proofs.YtnjmocobncncdaaGreatDoor.Bt Go.Proofs.YtnjmocobncncdaaGreatDoor.Rg Go.Proofs.YtnjmocobncncdaaGreatDoor.Wi
open Go.Proofs.YtnjmocobncncdaaGreatDoor.Ep (H32 Dat zh zh_ok num32 dcs dcs_len dcs_one zd zd_ok Has h_len one_app one_num szH)
set_option linter.unusedVariables false
set_option linter.unusedSimpArgs false

/-- What a protocol state tells. -/
structure Sta where
  prev : List Nat
  led : List Nat
  draw : List Nat
  slot : Nat
  len : Nat
  count : Nat
  min : Nat
  last : Nat
  counts : List Nat
  now : Dat
  next : Dat
structure Sta.Ok (s : Sta) : Prop where
  prev : H32 s.prev
  led : H32 s.led
  draw : H32 s.draw
  slot : s.slot < 4294967296
  len : s.len < 4294967296
  count : s.count < 4294967296
  min : s.min < 4294967296
  last : s.last < 4294967296
  counts : s.counts.length = 4
  clt : AllLt 4294967296 s.counts
  now : s.now.Ok
  next : s.next.Ok
/-- Its cells. -/
def scs (s : Sta) : List Value := u8s s.prev ++ (u8s s.led ++ (u8s s.draw ++ (num32 s.slot :: num32 s.len :: num32 s.count :: (Wn.wcs s.min s.last s.counts ++ Ep.pcs s.now s.next))))
/-- Is a field a digest? -/
def isH (i : Nat) : Bool := decide (i < 3) || (decide (12 ≤ i) && decide (i < 16)) || (decide (17 ≤ i) && decide (i < 21))
def fsz (i : Nat) : Nat := if isH i then 32 else 1
def off : Nat → Nat
  | 0 => 0
  | i + 1 => off i + fsz i
def hF (s : Sta) : Nat → List Nat
  | 0 => s.prev
  | 1 => s.led
  | 2 => s.draw
  | 12 => s.now.led
  | 13 => s.now.seed
  | 14 => s.now.start
  | 15 => s.now.lock
  | 17 => s.next.led
  | 18 => s.next.seed
  | 19 => s.next.start
  | 20 => s.next.lock
  | _ => zh
def nF (s : Sta) : Nat → Nat
  | 3 => s.slot
  | 4 => s.len
  | 5 => s.count
  | 6 => s.min
  | 7 => s.last
  | 8 => s.counts.getD 0 0
  | 9 => s.counts.getD 1 0
  | 10 => s.counts.getD 2 0
  | 11 => s.counts.getD 3 0
  | 16 => s.now.len
  | 21 => s.next.len
  | _ => 0
def fC (s : Sta) (i : Nat) : List Value := if isH i then u8s (hF s i) else [num32 (nF s i)]
def fB (s : Sta) (i : Nat) : List Nat := if isH i then hF s i else put (nF s i) 4
/-- The cells, and the bytes, of the first fields; the cells of the others. -/
def cP (s : Sta) : Nat → List Value
  | 0 => []
  | i + 1 => cP s i ++ fC s i
def bP (s : Sta) : Nat → List Nat
  | 0 => []
  | i + 1 => bP s i ++ fB s i
def dC (s : Sta) (i : Nat) : List Value := (List.range' i (22 - i)).flatMap (fC s)
/-- A state's bytes. -/
def staB (s : Sta) : List Nat := bP s 22
section
variable {s : Sta}
theorem hF_ok (k : s.Ok) (i : Nat) : H32 (hF s i) := by
  unfold hF
  split
  · exact k.prev
  · exact k.led
  · exact k.draw
  · exact k.now.led
  · exact k.now.seed
  · exact k.now.start
  · exact k.now.lock
  · exact k.next.led
  · exact k.next.seed
  · exact k.next.start
  · exact k.next.lock
  · exact zh_ok
theorem nF_lt (k : s.Ok) (i : Nat) : nF s i < 4294967296 := by
  unfold nF
  split
  · exact k.slot
  · exact k.len
  · exact k.count
  · exact k.min
  · exact k.last
  · exact getD_lt k.clt (by decide) _
  · exact getD_lt k.clt (by decide) _
  · exact getD_lt k.clt (by decide) _
  · exact getD_lt k.clt (by decide) _
  · exact k.now.len
  · exact k.next.len
  · decide
theorem fC_len (k : s.Ok) (i : Nat) : (fC s i).length = fsz i := by
  unfold fC fsz
  split
  · exact h_len (hF_ok k i)
  · rfl
theorem cP_len (k : s.Ok) : ∀ i, (cP s i).length = off i
  | 0 => rfl
  | i + 1 => by unfold cP off; rw [List.length_append, cP_len k i, fC_len k i]
theorem fC_h {i : Nat} (h : isH i = true) : fC s i = u8s (hF s i) := by unfold fC; rw [if_pos h]
theorem fC_n {i : Nat} (h : isH i = false) : fC s i = [num32 (nF s i)] := by unfold fC; rw [if_neg (by rw [h]; decide)]
theorem fB_h {i : Nat} (h : isH i = true) : fB s i = hF s i := by unfold fB; rw [if_pos h]
theorem fB_n {i : Nat} (h : isH i = false) : fB s i = put (nF s i) 4 := by unfold fB; rw [if_neg (by rw [h]; decide)]
theorem dC_step {i : Nat} (h : i < 22) : dC s i = fC s i ++ dC s (i + 1) := by
  unfold dC
  obtain ⟨m, hm⟩ : ∃ m, 22 - i = m + 1 := ⟨21 - i, by omega⟩
  rw [hm, List.range'_succ, List.flatMap_cons, show 22 - (i + 1) = m by omega]
theorem dC_end : dC s 22 = [] := rfl
theorem cd_all : ∀ i, i ≤ 22 → cP s i ++ dC s i = cP s 22 := by
  have h : ∀ n i, 22 - i = n → i ≤ 22 → cP s i ++ dC s i = cP s 22 := by
    intro n
    induction n with
    | zero =>
      intro i hn hi
      obtain rfl : i = 22 := by omega
      rw [dC_end, List.append_nil]
    | succ n ih =>
      intro i hn hi
      rw [dC_step (by omega), ← List.append_assoc]
      exact ih (i + 1) (by omega) (by omega)
  exact fun i hi => h _ i rfl hi
theorem counts_eq (k : s.Ok) : s.counts = [s.counts.getD 0 0, s.counts.getD 1 0, s.counts.getD 2 0, s.counts.getD 3 0] := by
  obtain ⟨a, b, c, d, h⟩ := four k.counts
  rw [h]
  rfl
theorem scs_eq (k : s.Ok) : scs s = cP s 22 := by
  have hc := counts_eq k
  unfold scs Wn.wcs rcs Ep.pcs dcs
  rw [hc]
  simp [cP, fC, isH, hF, nF, u32s, num32]
theorem scs_cd (k : s.Ok) (i : Nat) (hi : i ≤ 22) : scs s = cP s i ++ dC s i := by rw [scs_eq k, cd_all i hi]
theorem scs_len (k : s.Ok) : (scs s).length = 363 := by rw [scs_eq k, cP_len k]; rfl
theorem scs_one (s : Sta) : OneCells (scs s) := by
  unfold scs
  exact one_app (u8s_one _) (one_app (u8s_one _) (one_app (u8s_one _) (one_app (a := [num32 s.slot]) (one_num _) (one_app (a := [num32 s.len]) (one_num _) (one_app (a := [num32 s.count]) (one_num _) (one_app (Wn.wcs_one _ _ _) (Ep.pcs_one _ _)))))))
/-- A field stands where it stands. -/
theorem s_has (k : s.Ok) {i : Nat} (hi : i < 22) : Has (scs s) (off i) (fC s i) := ⟨cP s i, dC s (i + 1), by rw [scs_cd k i (by omega), dC_step hi], cP_len k i⟩
theorem s_hash (k : s.Ok) {i : Nat} (hi : i < 22) (h : isH i = true) : Has (scs s) (off i) (u8s (hF s i)) := by rw [← fC_h h]; exact s_has k hi
theorem s_num (k : s.Ok) {i : Nat} (hi : i < 22) (h : isH i = false) : Has (scs s) (off i) [num32 (nF s i)] := by rw [← fC_n h]; exact s_has k hi
theorem s_win (k : s.Ok) : Has (scs s) 99 (Wn.wcs s.min s.last s.counts) :=
  ⟨u8s s.prev ++ (u8s s.led ++ (u8s s.draw ++ [num32 s.slot, num32 s.len, num32 s.count])), Ep.pcs s.now s.next, by unfold scs; simp, by simp only [List.length_append, h_len k.prev, h_len k.led, h_len k.draw, List.length_cons, List.length_nil]⟩
theorem s_eps (k : s.Ok) : Has (scs s) 105 (Ep.pcs s.now s.next) := by
  have h : Has (scs s) 99 (Wn.wcs s.min s.last s.counts ++ Ep.pcs s.now s.next) :=
    ⟨u8s s.prev ++ (u8s s.led ++ (u8s s.draw ++ [num32 s.slot, num32 s.len, num32 s.count])), [], by unfold scs; simp, by simp only [List.length_append, h_len k.prev, h_len k.led, h_len k.draw, List.length_cons, List.length_nil]⟩
  exact h.right 6 (Wn.wcs_len k.counts)
theorem fB_len (k : s.Ok) (i : Nat) : (fB s i).length = if isH i then 32 else 4 := by
  unfold fB
  split
  · exact (hF_ok k i).len
  · exact put_length _ _
theorem fB_lt (k : s.Ok) (i : Nat) : AllLt 256 (fB s i) := by
  unfold fB
  split
  · exact (hF_ok k i).lt
  · exact put_lt _ _
theorem bP_le (k : s.Ok) : ∀ i, (bP s i).length ≤ 32 * i
  | 0 => Nat.le_refl _
  | i + 1 => by
    have h1 := bP_le k i
    have h2 := fB_len k i
    unfold bP
    rw [List.length_append]
    split at h2 <;> omega
theorem bP_lt (k : s.Ok) : ∀ i, AllLt 256 (bP s i)
  | 0 => fun x hx => (by cases hx)
  | i + 1 => append_lt (bP_lt k i) (fB_lt k i)
theorem staB_len (k : s.Ok) : (staB s).length = 396 := by
  unfold staB
  simp only [bP, List.length_append, fB_len k]
  rfl
end
/-- What is left when some fields of these bytes were read. -/
def qs (b : List Nat) : Nat → RS
  | 0 => (b, 0)
  | i + 1 => if isH i then (hashR (qs b i)).2 else (numR 4 (qs b i)).2
def hv (b : List Nat) (i : Nat) : List Nat := (hashR (qs b i)).1
def nv (b : List Nat) (i : Nat) : Nat := (numR 4 (qs b i)).1
/-- The state that bytes are read as, right or not. -/
def staR (b : List Nat) : Sta := ⟨hv b 0, hv b 1, hv b 2, nv b 3, nv b 4, nv b 5, nv b 6, nv b 7, [nv b 8, nv b 9, nv b 10, nv b 11], ⟨hv b 12, hv b 13, hv b 14, hv b 15, nv b 16⟩, ⟨hv b 17, hv b 18, hv b 19, hv b 20, nv b 21⟩⟩
section
attribute [local irreducible] hv nv qs
end
theorem take_left (k : Nat) (s : RS) (h : AllLt 256 s.1) : AllLt 256 (takeR k s).2.1 := by
  unfold takeR
  split
  · exact fun x hx => h x (List.mem_of_mem_drop hx)
  · exact fun x hx => (by cases hx)
section
attribute [local irreducible] hv nv qs
end
/-- The zero state. -/
def zs : Sta := ⟨zh, zh, zh, 0, 0, 0, 0, 0, [0, 0, 0, 0], zd, zd⟩
theorem zs_ok : zs.Ok := ⟨zh_ok, zh_ok, zh_ok, by decide, by decide, by decide, by decide, by decide, rfl, fun x hx => by
    simp only [zs, List.mem_cons, List.not_mem_nil, or_false] at hx
    rcases hx with rfl | rfl | rfl | rfl <;> decide, zd_ok, zd_ok⟩
theorem z_sta : Mem.Zero Tryz.prog 44 (scs zs) := by unfold Mem.Zero; kernel_rfl
theorem sz_sta {s : Sta} (k : s.Ok) : Sized Tryz.prog 44 (scs s).length := by rw [scs_len k]; exact ⟨.struct (Tryz.prog.fieldsOf 44), by kernel_rfl, rfl, by kernel_rfl⟩
theorem z_rsta : Mem.Zero Tryz.prog 55 (scs zs) := by unfold Mem.Zero; kernel_rfl
theorem sz_rsta {s : Sta} (k : s.Ok) : Sized Tryz.prog 55 (scs s).length := by rw [scs_len k]; exact ⟨.struct (Tryz.prog.fieldsOf 55), by kernel_rfl, rfl, by kernel_rfl⟩
end Go.Proofs.YtnjmocobncncdaaGreatDoor.Sa
