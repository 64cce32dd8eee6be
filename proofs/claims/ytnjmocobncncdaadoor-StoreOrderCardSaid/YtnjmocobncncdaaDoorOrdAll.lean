import Derived.Test.YtnjmocobncncdaaDoorEpoAll
import Derived.Test.YtnjmocobncncdaaDoorSlisAll
import Derived.Test.YtnjmocobncncdaaDoorEpoReads
import Derived.Test.YtnjmocobncncdaaDoorStaDo
import Derived.Lib.Bytealg
import Derived.Lib.BytesEntry
import Derived.Laws.Externs
import Derived.Test.YtnjmocobncncdaaDoorStaRRead
import Derived.Test.YtnjmocobncncdaaDoorStaSpec
import Derived.Test.YtnjmocobncncdaaDoorWireRefAll
import Derived.Test.YtnjmocobncncdaaDoorBytAll
import Derived.Test.YtnjmocobncncdaaDoorTagAll
import Derived.Test.YtnjmocobncncdaaDoorTagOne
import Derived.Test.YtnjmocobncncdaaDoorCmp
/-
  An order of digests and of keys, over numbers: a digest is a number of 32 digits of base 256, a key one of three such; which is greater; the first that none is greater than. Over lists of numbers alone.
-/
namespace Go.Proofs.YtnjmocobncncdaaDoor.Od
open Go.Proofs.YtnjmocobncncdaaDoor.Bt
open Go.Proofs.YtnjmocobncncdaaDoor.Ep (H32 zh zh_ok h_len)
set_option linter.unusedVariables false
set_option linter.unusedSimpArgs false

/-- Which of two numbers is greater. -/
def cmpN (m n : Nat) : Int := if m < n then -1 else if n < m then 1 else 0
theorem cmpN_lt {m n : Nat} (h : m < n) : cmpN m n = -1 := if_pos h
theorem cmpN_gt {m n : Nat} (h : n < m) : cmpN m n = 1 := by unfold cmpN; rw [if_neg (by omega), if_pos h]
theorem cmpN_neg {m n : Nat} : cmpN m n < 0 ↔ m < n := by unfold cmpN; split <;> (try split) <;> omega
theorem cmpN_zero {m n : Nat} : cmpN m n = 0 ↔ m = n := by unfold cmpN; split <;> (try split) <;> omega
/-- Digits of base 256, the highest first. -/
def val : List Nat → Nat
  | [] => 0
  | a :: x => a * 256 ^ x.length + val x
theorem val_lt : ∀ x : List Nat, AllLt 256 x → val x < 256 ^ x.length
  | [], _ => by decide
  | a :: x, h => by
    have h1 := val_lt x (fun y hy => h y (by simp [hy]))
    have h2 : a + 1 ≤ 256 := h a (by simp)
    have h3 := Nat.mul_le_mul_right (256 ^ x.length) h2
    rw [val, List.length_cons, Nat.pow_succ, Nat.mul_comm (256 ^ x.length) 256]
    rw [Nat.succ_mul] at h3
    omega
theorem val_append : ∀ (p x : List Nat), val (p ++ x) = val p * 256 ^ x.length + val x
  | [], x => by simp [val]
  | a :: p, x => by
    rw [List.cons_append, val, val_append p x, val, List.length_append, Nat.add_mul, Nat.mul_assoc, ← Nat.pow_add]
    omega
/-- The first digit that is another one tells. -/
theorem val_first {p x y : List Nat} {a b : Nat} (hl : x.length = y.length) (hx : AllLt 256 x) (h : a < b) : val (p ++ a :: x) < val (p ++ b :: y) := by
  rw [val_append, val_append, List.length_cons, List.length_cons, hl, val, val, hl]
  have h1 := val_lt x hx
  have h2 := Nat.mul_le_mul_right (256 ^ y.length) (show a + 1 ≤ b from h)
  rw [Nat.succ_mul] at h2
  rw [hl] at h1
  omega
theorem val_inj : ∀ (x y : List Nat), x.length = y.length → AllLt 256 x → AllLt 256 y → val x = val y → x = y
  | [], [], _, _, _, _ => rfl
  | [], b :: y, h, _, _, _ => by simp at h
  | a :: x, [], h, _, _, _ => by simp at h
  | a :: x, b :: y, h, hx, hy, e => by
    have hl : x.length = y.length := by simpa using h
    have hx' : AllLt 256 x := fun z hz => hx z (by simp [hz])
    have hy' : AllLt 256 y := fun z hz => hy z (by simp [hz])
    rcases Nat.lt_trichotomy a b with h1 | rfl | h1
    · have := val_first (p := []) hl hx' h1
      simp only [List.nil_append] at this
      omega
    · rw [val, val, hl] at e
      rw [val_inj x y hl hx' hy' (by omega)]
    · have := val_first (p := []) hl.symm hy' h1
      simp only [List.nil_append] at this
      omega
/-- 256 ^ 32, behind a name. -/
def big : Nat := 256 ^ 32
theorem val_big {x : List Nat} (k : H32 x) : val x < big := by
  have := val_lt x k.lt
  rw [k.len] at this
  exact this
theorem val_eq {x y : List Nat} (k : H32 x) (j : H32 y) : val x = val y ↔ x = y := ⟨val_inj x y (k.len.trans j.len.symm) k.lt j.lt, congrArg val⟩
structure Ky where
  len : Nat
  draw : List Nat
  hash : List Nat
structure Ky.Ok (k : Ky) : Prop where
  len : k.len < 4294967296
  draw : H32 k.draw
  hash : H32 k.hash
def kval (k : Ky) : Nat := (k.len * big + val k.draw) * big + val k.hash
def kcmp (a b : Ky) : Int := cmpN (kval a) (kval b)
theorem mix_lt {m n x y B : Nat} (hx : x < B) (h : m < n) : m * B + x < n * B + y := by
  have := Nat.mul_le_mul_right B (show m + 1 ≤ n from h)
  rw [Nat.succ_mul] at this
  omega
theorem kval_len {a b : Ky} (j : a.Ok) (h : a.len < b.len) : kval a < kval b := mix_lt (val_big j.hash) (mix_lt (val_big j.draw) h)
theorem kval_draw {a b : Ky} (j : a.Ok) (e : a.len = b.len) (h : val a.draw < val b.draw) : kval a < kval b := by
  refine mix_lt (val_big j.hash) ?_
  rw [e]; omega
theorem kval_hash {a b : Ky} (e : a.len = b.len) (d : a.draw = b.draw) : kcmp a b = cmpN (val a.hash) (val b.hash) := by
  unfold kcmp kval cmpN
  rw [e, d]
  split <;> rename_i h1
  · rw [if_pos (by omega)]
  · split <;> rename_i h2
    · rw [if_neg (by omega), if_pos (by omega)]
    · rw [if_neg (by omega), if_neg (by omega)]
theorem kval_inj {a b : Ky} (j : a.Ok) (k : b.Ok) (h : kval a = kval b) : a = b := by
  have h1 : a.len = b.len := by
    rcases Nat.lt_trichotomy a.len b.len with h1 | h1 | h1
    · have := kval_len j h1; omega
    · exact h1
    · have := kval_len k h1; omega
  have h2 : val a.draw = val b.draw := by
    rcases Nat.lt_trichotomy (val a.draw) (val b.draw) with h2 | h2 | h2
    · have := kval_draw j h1 h2; omega
    · exact h2
    · have := kval_draw k h1.symm h2; omega
  have h3 := (val_eq j.draw k.draw).1 h2
  have h4 : val a.hash = val b.hash := by
    unfold kval at h
    rw [h1, h2] at h
    omega
  have h5 := (val_eq j.hash k.hash).1 h4
  cases a; cases b
  simp only at h1 h3 h5
  rw [h1, h3, h5]
/-- What two keys' order is, part by part. -/
theorem kcmp_parts {a b : Ky} (j : a.Ok) (k : b.Ok) : kcmp a b = if cmpN a.len b.len = 0 then (if cmpN (val a.draw) (val b.draw) = 0 then cmpN (val a.hash) (val b.hash) else cmpN (val a.draw) (val b.draw)) else cmpN a.len b.len := by
  rcases Nat.lt_trichotomy a.len b.len with h1 | h1 | h1
  · rw [cmpN_lt h1, if_neg (by decide)]; exact cmpN_lt (kval_len j h1)
  · rw [cmpN_zero.2 h1, if_pos rfl]
    rcases Nat.lt_trichotomy (val a.draw) (val b.draw) with h2 | h2 | h2
    · rw [cmpN_lt h2, if_neg (by decide)]; exact cmpN_lt (kval_draw j h1 h2)
    · rw [cmpN_zero.2 h2, if_pos rfl]; exact kval_hash h1 ((val_eq j.draw k.draw).1 h2)
    · rw [cmpN_gt h2, if_neg (by decide)]; exact cmpN_gt (kval_draw k h1.symm h2)
  · rw [cmpN_gt h1, if_neg (by decide)]; exact cmpN_gt (kval_len k h1)
/-- Place j of the first k keys: none of them is greater, and those ahead are less. -/
structure Top (l : List Ky) (k j : Nat) : Prop where
  lt : j < k
  all : ∀ i a b, i < k → l[i]? = some a → l[j]? = some b → kval a ≤ kval b
  ahead : ∀ i a b, i < j → l[i]? = some a → l[j]? = some b → kval a < kval b
theorem Top.one (l : List Ky) : Top l 1 0 := ⟨by omega, fun i a b hi ha hb => by
  obtain rfl : i = 0 := by omega
  rw [ha] at hb
  rw [Option.some.inj hb]
  exact Nat.le_refl _, fun i a b hi => by omega⟩
theorem Top.stay {l : List Ky} {k j : Nat} {a b : Ky} (h : Top l k j) (ha : l[k]? = some a) (hb : l[j]? = some b) (hle : kval a ≤ kval b) : Top l (k + 1) j := ⟨by have := h.lt; omega, fun i c d hi hc hd => by
  by_cases hk : i < k
  · exact h.all i c d hk hc hd
  · obtain rfl : i = k := by omega
    rw [ha] at hc; rw [hb] at hd
    rw [← Option.some.inj hc, ← Option.some.inj hd]
    exact hle, h.ahead⟩
theorem Top.turn {l : List Ky} {k j : Nat} {a b : Ky} (h : Top l k j) (ha : l[k]? = some a) (hb : l[j]? = some b) (hlt : kval b < kval a) : Top l (k + 1) k := ⟨by omega, fun i c d hi hc hd => by
  rw [ha] at hd
  rw [← Option.some.inj hd]
  by_cases hk : i < k
  · have := h.all i c b hk hc hb; omega
  · obtain rfl : i = k := by omega
    rw [ha] at hc
    rw [← Option.some.inj hc]
    exact Nat.le_refl _, fun i c d hi hc hd => by
  rw [ha] at hd
  rw [← Option.some.inj hd]
  have := h.all i c b hi hc hb
  omega⟩
theorem Top.only {l : List Ky} {k i j : Nat} (h : Top l k i) (g : Top l k j) (hk : k ≤ l.length) : i = j := by
  have hi := h.lt; have hj := g.lt
  obtain ⟨a, ha⟩ : ∃ a, l[i]? = some a := ⟨_, List.getElem?_eq_getElem (by omega)⟩
  obtain ⟨b, hb⟩ : ∃ b, l[j]? = some b := ⟨_, List.getElem?_eq_getElem (by omega)⟩
  have h1 := h.all j b a hj hb ha
  have h2 := g.all i a b hi ha hb
  rcases Nat.lt_trichotomy i j with h3 | h3 | h3
  · have := g.ahead i a b h3 ha hb; omega
  · exact h3
  · have := h.ahead j b a h3 hb ha; omega
theorem Top.exists (l : List Ky) : ∀ k, k + 1 ≤ l.length → ∃ j, Top l (k + 1) j
  | 0, _ => ⟨0, Top.one l⟩
  | k + 1, h => by
    obtain ⟨j, hj⟩ := Top.exists l k (by omega)
    have hl := hj.lt
    obtain ⟨a, ha⟩ : ∃ a, l[k + 1]? = some a := ⟨_, List.getElem?_eq_getElem (by omega)⟩
    obtain ⟨b, hb⟩ : ∃ b, l[j]? = some b := ⟨_, List.getElem?_eq_getElem (by omega)⟩
    by_cases hle : kval a ≤ kval b
    · exact ⟨j, hj.stay ha hb hle⟩
    · exact ⟨k + 1, hj.turn ha hb (by omega)⟩
end Go.Proofs.YtnjmocobncncdaaDoor.Od

/-
  Keys as cells; how they are written out, held against one another by '==', kept in slices; those that came in, opened. Over this seat's translation.
-/
namespace Go.Proofs.YtnjmocobncncdaaDoor.Od
open Go.ChangeShapes Go.WideShapes Go.ChangeAt Go.RowKit Go.Proofs.YtnjmocobncncdaaDoor.Mem Go.Proofs.YtnjmocobncncdaaDoor.Bt Go.Proofs.YtnjmocobncncdaaDoor.Sl
open Go.Proofs.YtnjmocobncncdaaDoor.Ep (H32 zh zh_ok num32 Has h_len one_app one_num szH c_num c_hash fit_hash)
set_option linter.unusedVariables false
set_option linter.unusedSimpArgs false

def kcs (k : Ky) : List Value := num32 k.len :: (u8s k.draw ++ u8s k.hash)
def zk : Ky := ⟨0, zh, zh⟩
theorem zk_ok : zk.Ok := ⟨(by decide : 0 < 4294967296), zh_ok, zh_ok⟩
instance : Inhabited Ky := ⟨zk⟩
theorem kcs_len {b : Ky} (h : b.Ok) : (kcs b).length = 65 := by unfold kcs; rw [List.length_cons, List.length_append, h_len h.draw, h_len h.hash]
theorem kcs_one (b : Ky) : OneCells (kcs b) := one_app (a := [num32 b.len]) (one_num _) (one_app (u8s_one _) (u8s_one _))
section
variable {cs : List Value} {o : Nat}
theorem k_len {b : Ky} (h : Has cs o (kcs b)) : Has cs o [num32 b.len] := h.head
theorem k_draw {b : Ky} (h : Has cs o (kcs b)) : Has cs (o + 1) (u8s b.draw) := h.tail.left
theorem k_hash {b : Ky} (k : b.Ok) (h : Has cs o (kcs b)) : Has cs (o + 33) (u8s b.hash) := h.tail.right 32 (h_len k.draw)
end
theorem k0 (b : Ky) : Has (kcs b) 0 [num32 b.len] := k_len (Has.refl _)
theorem k1 (b : Ky) : Has (kcs b) 1 (u8s b.draw) := k_draw (Has.refl _)
theorem k33 {b : Ky} (k : b.Ok) : Has (kcs b) 33 (u8s b.hash) := k_hash k (Has.refl _)
theorem z_key : Mem.Zero Tryd.prog 54 (kcs zk) := by unfold Mem.Zero; kernel_rfl
theorem sz_key {b : Ky} (h : b.Ok) : Sized Tryd.prog 54 (kcs b).length := by rw [kcs_len h]; exact ⟨.struct (Tryd.prog.fieldsOf 54), by kernel_rfl, rfl, by kernel_rfl⟩
theorem sz_rkey {b : Ky} (h : b.Ok) : Sized Tryd.prog 80 (kcs b).length := by rw [kcs_len h]; exact ⟨.struct (Tryd.prog.fieldsOf 80), by kernel_rfl, rfl, by kernel_rfl⟩
theorem fitK {b : Ky} (k : b.Ok) : 0 + (kcs b).length ≤ (kcs zk).length := by rw [kcs_len k, kcs_len zk_ok]; omega
theorem allK {b : Ky} (k : b.Ok) : lay (kcs zk) 0 (kcs b) = kcs b := lay_all _ _ (by rw [kcs_len k, kcs_len zk_ok])
theorem kcs_app (b : Ky) : kcs b = [num32 b.len] ++ (u8s b.draw ++ (u8s b.hash ++ [])) := by rw [List.append_nil]; rfl
theorem u8s_same : ∀ {x y : List Nat}, u8s x = u8s y → x = y
  | [], [], _ => rfl
  | [], b :: y, h => by cases h
  | a :: x, [], h => by cases h
  | a :: x, b :: y, h => by
    have h1 : Value.int .u8 (a : Int) = .int .u8 (b : Int) := (List.cons.inj h).1
    have h2 : u8s x = u8s y := (List.cons.inj h).2
    injection h1 with _ h1
    rw [u8s_same h2, Int.ofNat_inj.1 h1]
theorem kcs_inj {a b : Ky} (j : a.Ok) (k : b.Ok) (h : kcs a = kcs b) : a = b := by
  unfold kcs at h
  obtain ⟨h1, h2⟩ := List.cons.inj h
  obtain ⟨h3, h4⟩ := List.append_inj h2 (by rw [h_len j.draw, h_len k.draw])
  have h5 := u8s_same h3
  have h6 := u8s_same h4
  have h7 : a.len = b.len := by
    unfold Ep.num32 at h1
    injection h1 with _ h1
    exact Int.ofNat_inj.1 h1
  cases a; cases b
  simp only at h5 h6 h7
  rw [h5, h6, h7]
theorem lay_klen (b : Ky) (n : Nat) : lay (kcs b) 0 [num32 n] = kcs ⟨n, b.draw, b.hash⟩ := by
  rw [kcs_app, lay_head [num32 b.len] _ [num32 n] rfl, kcs_app]
theorem lay_kdraw {b : Ky} {x : List Nat} (k : b.Ok) (hx : H32 x) : lay (kcs b) 1 (u8s x) = kcs ⟨b.len, x, b.hash⟩ := by
  rw [kcs_app, show (1 : Nat) = 1 + 0 from rfl, lay_skip [num32 b.len] _ _ _ (m := 1) rfl, lay_head _ _ _ (by rw [h_len hx, h_len k.draw]), kcs_app]
theorem lay_khash {b : Ky} {x : List Nat} (k : b.Ok) (hx : H32 x) : lay (kcs b) 33 (u8s x) = kcs ⟨b.len, b.draw, x⟩ := by
  rw [kcs_app, show (33 : Nat) = 1 + (32 + 0) from rfl, lay_skip [num32 b.len] _ _ _ (m := 1) rfl, lay_skip _ _ _ _ (h_len k.draw), lay_head _ _ _ (by rw [h_len hx, h_len k.hash]), kcs_app]
def kplaces : Nat → Option (Nat × Nat) := fun i => (#[(0, 1), (1, 32), (33, 32)] : Array (Nat × Nat))[i]?
theorem shape_key (parts : List (Nat × Value)) : Tryd.prog.built 54 parts = Instr.fill kplaces (kcs zk).toArray parts := by unfold kplaces; kernel_rfl
theorem fk_len {b : Ky} (k : b.Ok) (n : Nat) (rest : List (Nat × Value)) : Instr.fill kplaces (kcs b).toArray ((0, num32 n) :: rest) = Instr.fill kplaces (kcs ⟨n, b.draw, b.hash⟩).toArray rest := by
  rw [fill_step kplaces (kcs b) 0 0 1 _ [num32 n] rest rfl rfl rfl (by rw [kcs_len k]; omega), lay_klen]
theorem fk_draw {b : Ky} (k : b.Ok) {x : List Nat} (hx : H32 x) (rest : List (Nat × Value)) : Instr.fill kplaces (kcs b).toArray ((1, .agg (u8s x).toArray) :: rest) = Instr.fill kplaces (kcs ⟨b.len, x, b.hash⟩).toArray rest := by
  rw [fill_step kplaces (kcs b) 1 1 32 _ (u8s x) rest rfl rfl (h_len hx) (by rw [kcs_len k]; omega), lay_kdraw k hx]
theorem fk_hash {b : Ky} (k : b.Ok) {x : List Nat} (hx : H32 x) (rest : List (Nat × Value)) : Instr.fill kplaces (kcs b).toArray ((2, .agg (u8s x).toArray) :: rest) = Instr.fill kplaces (kcs ⟨b.len, b.draw, x⟩).toArray rest := by
  rw [fill_step kplaces (kcs b) 2 33 32 _ (u8s x) rest rfl rfl (h_len hx) (by rw [kcs_len k]; omega), lay_khash k hx]
theorem built_key {b : Ky} (k : b.Ok) : Tryd.prog.built 54 [(0, num32 b.len), (1, .agg (u8s b.draw).toArray), (2, .agg (u8s b.hash).toArray)] = some (kcs b).toArray := by
  rw [shape_key, fk_len zk_ok, fk_draw (b := ⟨b.len, zk.draw, zk.hash⟩) ⟨k.len, zh_ok, zh_ok⟩ k.draw, fk_hash (b := ⟨b.len, b.draw, zk.hash⟩) ⟨k.len, k.draw, zh_ok⟩ k.hash, fill_done]
abbrev kK : Kind Ky := ⟨kcs, Ky.Ok, zk, 65, 54, 51, 68⟩
theorem fK : kK.Fit Tryd.prog where
  len := fun _ k => kcs_len k
  one := kcs_one
  zok := zk_ok
  pos := (by decide : 0 < 65)
  small := (by decide : 65 ≤ 4096)
  bsmall := (by decide : 68 ≤ 65536)
  und := by kernel_rfl
  row := ⟨.struct (Tryd.prog.fieldsOf 54), by kernel_rfl, rfl⟩
  info := by kernel_rfl
abbrev kRK : Kind Ky := ⟨kcs, Ky.Ok, zk, 65, 80, 60, 68⟩
theorem fRK : kRK.Fit Tryd.prog where
  len := fun _ k => kcs_len k
  one := kcs_one
  zok := zk_ok
  pos := (by decide : 0 < 65)
  small := (by decide : 65 ≤ 4096)
  bsmall := (by decide : 68 ≤ 65536)
  und := by kernel_rfl
  row := ⟨.struct (Tryd.prog.fieldsOf 80), by kernel_rfl, rfl⟩
  info := by kernel_rfl
set_option maxRecDepth 100000 in
theorem fit_key (e : Nat) {d : Ky} (k : d.Ok) : Fit Tryd.prog (e + 3) 54 (kcs d) := by
  refine fit_struct [(30, 0), (29, 1), (29, 33)] (by kernel_rfl) (by kernel_rfl) (by kernel_rfl) (n := 65) (by kernel_rfl) (kcs_len k) ?_
  have c1 : Tryd.prog.cellsOf 29 = 32 := by kernel_rfl
  have c2 : Tryd.prog.cellsOf 30 = 1 := by kernel_rfl
  intro p hp
  simp only [List.mem_cons, List.not_mem_nil, or_false] at hp
  rcases hp with rfl | rfl | rfl
  · rw [c2, (k0 d).chunk (n := 1) rfl]; exact fit_int (by kernel_rfl) _
  · rw [c1, (k1 d).chunk (h_len k.draw)]; exact fit_hash e k.draw
  · rw [c1, (k33 k).chunk (h_len k.hash)]; exact fit_hash e k.hash
set_option maxRecDepth 100000 in
theorem fit_rkey (e : Nat) {d : Ky} (k : d.Ok) : Fit Tryd.prog (e + 3) 80 (kcs d) := by
  refine fit_struct [(30, 0), (29, 1), (29, 33)] (by kernel_rfl) (by kernel_rfl) (by kernel_rfl) (n := 65) (by kernel_rfl) (kcs_len k) ?_
  have c1 : Tryd.prog.cellsOf 29 = 32 := by kernel_rfl
  have c2 : Tryd.prog.cellsOf 30 = 1 := by kernel_rfl
  intro p hp
  simp only [List.mem_cons, List.not_mem_nil, or_false] at hp
  rcases hp with rfl | rfl | rfl
  · rw [c2, (k0 d).chunk (n := 1) rfl]; exact fit_int (by kernel_rfl) _
  · rw [c1, (k1 d).chunk (h_len k.draw)]; exact fit_hash e k.draw
  · rw [c1, (k33 k).chunk (h_len k.hash)]; exact fit_hash e k.hash
section
variable {o : Oper} {a : Act}
theorem key_iff {s t : Ky} (k : s.Ok) (j : t.Ok) {b : Bool} (h : b = true ↔ s = t) : b = true ↔ kcs s = kcs t := h.trans ⟨congrArg kcs, kcs_inj k j⟩
set_option maxRecDepth 100000 in
theorem run_op_eqlK {s t : Ky} (k : s.Ok) (j : t.Ok) (y z : Operand) (t' : TypeId) (ho : o.op = .binOp .eql 54 y z t') (hy : a.eval y = .agg (kcs s).toArray) (hz : a.eval z = .agg (kcs t).toArray) (b : Bool) (hb : b = true ↔ s = t) (w : World) : (execOp a.eval o).run Tryd.prog w = .ok (.value (.bool b)) w :=
  run_op_eqlF 54 y z t' ho 3 (by omega) (.struct (Tryd.prog.fieldsOf 54)) (by kernel_rfl) rfl (by kernel_rfl) (kcs s) (kcs t) hy hz (fit_key 0 k) (fit_key 0 j) b (key_iff k j hb) w
end
section
variable {H : Type} {enc : TypeId × Value → H} {w : World} {base : Nat} {spare : Nat → Bool} {held : Bool} {fuel : Nat} {cs : List Value} {x : DataW H × List MemPlace}
end
end Go.Proofs.YtnjmocobncncdaaDoor.Od

/-
  The contracts of bytes.Compare and of package order's Hashes, Compare (several orders put into one, by method expressions) and Of. Over this seat's translation.
-/
namespace Go.Proofs.YtnjmocobncncdaaDoor.Od
open Go.ChangeShapes Go.WideShapes Go.ChangeAt Go.RowKit Go.Proofs.YtnjmocobncncdaaDoor.Mem Go.Proofs.YtnjmocobncncdaaDoor.Bt Go.Proofs.YtnjmocobncncdaaDoor.Sl
open Go.Proofs.YtnjmocobncncdaaDoor.Ep (H32 zh zh_ok num32 Has h_len one_app one_num szH zH fitH allH)
open Go.Proofs.YtnjmocobncncdaaDoor.Sha (ks)
open Go.Proofs.YtnjmocobncncdaaDoor.Sa (Sta scs digS digS_ok sz_sta h_drw h_lngth)
set_option linter.unusedVariables false
set_option linter.unusedSimpArgs false

def ints (x : List Nat) : List Int := x.map fun n : Nat => (n : Int)
theorem byte_lt {m n : Nat} (hm : m < 256) (hn : n < 256) : UInt8.ofNat m < UInt8.ofNat n ↔ m < n := by
  rw [UInt8.lt_iff_toNat_lt, UInt8.toNat_ofNat', UInt8.toNat_ofNat', Nat.mod_eq_of_lt hm, Nat.mod_eq_of_lt hn]
theorem cmp_bytes : ∀ x y : List Nat, AllLt 256 x → AllLt 256 y → x.length = y.length → Go.Lib.compareBytes (Go.Lib.bytesOf (ints x)) (Go.Lib.bytesOf (ints y)) = cmpN (val x) (val y)
  | [], [], _, _, _ => rfl
  | [], b :: y, _, _, h => by simp at h
  | a :: x, [], _, _, h => by simp at h
  | a :: x, b :: y, hx, hy, h => by
    have hl : x.length = y.length := by simpa using h
    have kx : AllLt 256 x := fun z hz => hx z (by simp [hz])
    have ky : AllLt 256 y := fun z hz => hy z (by simp [hz])
    have ih := cmp_bytes x y kx ky hl
    have ha := hx a (by simp)
    have hb := hy b (by simp)
    have e : Go.Lib.compareBytes (Go.Lib.bytesOf (ints (a :: x))) (Go.Lib.bytesOf (ints (b :: y))) = if UInt8.ofNat a < UInt8.ofNat b then -1 else if UInt8.ofNat b < UInt8.ofNat a then 1 else Go.Lib.compareBytes (Go.Lib.bytesOf (ints x)) (Go.Lib.bytesOf (ints y)) := rfl
    rw [e, ih]
    rcases Nat.lt_trichotomy a b with h1 | rfl | h1
    · rw [if_pos ((byte_lt ha hb).2 h1), cmpN_lt]
      have := val_first (p := []) hl kx h1
      simpa using this
    · rw [if_neg (fun q => by have := (byte_lt ha ha).1 q; omega), if_neg (fun q => by have := (byte_lt ha ha).1 q; omega)]
      unfold cmpN
      rw [val, val, hl]
      simp only [Nat.add_lt_add_iff_left]
    · rw [if_neg (fun q => by have := (byte_lt ha hb).1 q; omega), if_pos ((byte_lt hb ha).2 h1), cmpN_gt]
      have := val_first (p := []) hl.symm ky h1
      simpa using this
theorem run_compare {P : Program} {x y : List Nat} (k : H32 x) (j : H32 y) (b o b' o' c d : Nat) (w : World) (hx : w.rangeAt b o (u8s x)) (hy : w.rangeAt b' o' (u8s y)) :
    (Extern.BytealgCompare.compare #[.slice (some ⟨b, o, none⟩) 32 c, .slice (some ⟨b', o', none⟩) 32 d]).run P w = .ok (.int .i64 (cmpN (val x) (val y))) w := by
  have ld : ∀ {x : List Nat} {b o : Nat}, H32 x → w.rangeAt b o (u8s x) → (Extern.Bytes.loadBytes ⟨b, o, none⟩ 32 .empty).run P w = .ok ⟨(Go.Lib.bytesOf (ints x)).toArray⟩ w := fun {x b o} k h => by
    have hl := Go.Lib.run_loadBytesX (P := P) w (ints x) ⟨b, o, none⟩ .empty (fun i n hi => by
      obtain ⟨m, hm, rfl⟩ : ∃ m : Nat, x[i]? = some m ∧ (m : Int) = n := by simpa [ints] using hi
      have e : (⟨b, o, none⟩ : Addr).add i = ⟨b, o + i, none⟩ := by unfold Addr.add; split <;> simp_all
      rw [e]
      exact h i (.int .u8 (m : Int)) (by simp [u8s, hm]))
    rw [show (ints x).length = 32 by simp [ints, k.len]] at hl
    rw [hl]
    congr 1
    apply ByteArray.ext
    show (#[] : Array UInt8) ++ _ = _
    simp
  change Sem.run P (do pure (goInt (Extern.BytealgCompare.cmp (← Extern.Bytes.bytesOf (.slice (some ⟨b, o, none⟩) 32 c)) (← Extern.Bytes.bytesOf (.slice (some ⟨b', o', none⟩) 32 d))))) w = _
  simp only [Extern.Bytes.bytesOf, Sem.run_bind, Sem.run_pure, ld k hx, ld j hy, Result.andThen]
  rw [Go.Lib.cmp_eq]
  show Result.ok (goInt (Go.Lib.compareBytes (Go.Lib.bytesOf (ints x)) (Go.Lib.bytesOf (ints y)))) w = _
  rw [cmp_bytes x y k.lt j.lt (k.len.trans j.len.symm)]
  rfl
/-- The function that the model stands in for. -/
theorem ext_facts : (Tryd.prog.funcs[70]?).map (fun fn => ((fn.name == "runtime.NumGoroutine"), fn.body.isNone, (Extern.findNext fn).isNone)) = some (false, true, true) := by kernel_rfl
theorem ext_find : (Tryd.prog.funcs[70]?).bind Extern.find = some Extern.BytealgCompare.compare := by kernel_rfl
theorem ext_run (args : Array Value) (w : World) : (callFunc 70 args).run Tryd.prog w = ((Extern.BytealgCompare.compare args).run Tryd.prog w).andThen fun v w' => .ok (.value v) w' := by
  cases h : Tryd.prog.funcs[70]? with
  | none => have := ext_facts; rw [h] at this; cases this
  | some fn =>
    have h1 := ext_facts
    have h2 := ext_find
    rw [h] at h1 h2
    simp only [Option.map_some, Option.some.injEq, Prod.mk.injEq] at h1
    exact run_callFunc_extern h h1.1 h1.2.1 (Option.isNone_iff_eq_none.1 h1.2.2) h2 args w
set_option maxHeartbeats 4000000 in
set_option maxRecDepth 100000 in
theorem bcmp_any (x y : List Nat) (k : H32 x) (j : H32 y) (b o b' o' : Nat) (w : World) (hx : w.rangeAt b o (u8s x)) (hy : w.rangeAt b' o' (u8s y)) :
    Calls Tryd.prog 55 #[.slice (some ⟨b, o, none⟩) 32 32, .slice (some ⟨b', o', none⟩) 32 32] w fun e w' => e = .returned (.int .i64 (cmpN (val x) (val y))) ∧ w = w' := by
  have HR := Lib.hid (run_compare (P := Tryd.prog) k j b o b' o' 32 32 w hx hy)
  generalize cmpN (val x) (val y) = z at HR ⊢
  clear hx hy k j
  go_enter Tryd.func55, Tryd.ntmps55
  go_wp2
  rw [ext_run, HR.out]
  simp only [Result.andThen]
  rw [Oper.upon_value]
  go_wp2
  go_ret
  exact ⟨rfl, rfl⟩
set_option maxHeartbeats 4000000 in
set_option maxRecDepth 100000 in
theorem hashes_any (x y : List Nat) (w : World) (k : H32 x) (j : H32 y) :
    Calls Tryd.prog 42 #[.agg (u8s x).toArray, .agg (u8s y).toArray] w fun e w' => e = .returned (.int .i64 (cmpN (val x) (val y))) ∧ Below w.heap.size w w' := by
  have CB := Lib.hid (fun b o b' o' w0 hx hy => bcmp_any x y k j b o b' o' w0 hx hy)
  generalize cmpN (val x) (val y) = z at CB ⊢
  clear k j
  go_enter Tryd.func42, Tryd.ntmps42
  go_wp2_with (first
    | ((with_reducible refine at_slot 2 ?_); (refine arm_box (o := ⟨some 2, _, _, _, _, _⟩) rfl _ _ rfl (u8s x) rfl ?_); intro A v1 Ae hv1 nv1)
    | ((with_reducible refine at_slot 3 ?_); (refine arm_box (o := ⟨some 3, _, _, _, _, _⟩) rfl _ _ rfl (u8s y) rfl ?_); intro B v2 Be hv2 nv2))
  have q0 := Ae.out
  have q1 := nv1.size
  have q2 := Be.out
  have q3 := nv2.size
  have lA : w.heap.size ≤ A := by omega
  have lB : w.heap.size ≤ B := by omega
  have nAB : A ≠ B := by omega
  have nBA : B ≠ A := by omega
  have rA3 : Row v2 A 29 (u8s x) := (hv1.old nv2.below)
  have rB3 : Row v2 B 29 (u8s y) := hv2
  have bel3 : Below w.heap.size w v2 := (below_step (below_step (Below.refl _ _) (by omega) nv1.below) (by omega) nv2.below)
  clear q0 q1 q2 q3 Ae hv1 nv1 Be hv2 nv2
  refine wp_region_quiet (C := fun w' => Below v2.heap.size v2 w') (by kernel_rfl) (by kernel_rfl) ((Below.refl _ _).drew) ?_
  rw [List.toList_toArray]
  refine q_value 5 rfl (.slice (some ⟨A, 0, none⟩) 32 32) (by kernel_rfl) (fun w' _ => run_op_sliceAll _ _ rfl 32 5 (by kernel_rfl) (by kernel_rfl) A 0 rfl (by omega) w') ?_
  simp only [Act.put, List.setIfInBounds_toArray, List.set_cons_zero, List.set_cons_succ]
  refine q_value 6 rfl (.slice (some ⟨B, 0, none⟩) 32 32) (by kernel_rfl) (fun w' _ => run_op_sliceAll _ _ rfl 32 5 (by kernel_rfl) (by kernel_rfl) B 0 rfl (by omega) w') ?_
  simp only [Act.put, List.setIfInBounds_toArray, List.set_cons_zero, List.set_cons_succ]
  refine q_call 7 rfl (.int .i64 z) 55 #[.slice (some ⟨A, 0, none⟩) 32 32, .slice (some ⟨B, 0, none⟩) 32 32] (by kernel_rfl) (fun w' _ => run_op_call _ _ _ rfl _ (by simp only [List.map_toArray, List.map_cons, List.map_nil]; rfl) Tryd.func55 (by kernel_rfl) (by kernel_rfl) w') (fun w' hC => (CB.out A 0 B 0 w' ((Has.refl _).range (rA3.old hC)) ((Has.refl _).range (rB3.old hC))).mono fun e w'' h => ⟨h.1, h.2 ▸ hC⟩) ?_
  simp only [Act.put, List.setIfInBounds_toArray, List.set_cons_zero, List.set_cons_succ]
  refine q_value 4 rfl (.int .i64 z) (by kernel_rfl) (fun w' _ => by kernel_rfl) ?_
  simp only [Act.put, List.setIfInBounds_toArray, List.set_cons_zero, List.set_cons_succ]
  refine wpQuiet_nil ?_
  intro w2 hC
  go_wp2_with fail
  go_ret
  exact ⟨rfl, below_step bel3 bel3.size hC⟩
set_option maxHeartbeats 4000000 in
set_option maxRecDepth 100000 in
theorem isnan_any (n : Nat) (w : World) : Calls Tryd.prog 54 #[.int .u32 (n : Int)] w fun e w' => e = .returned (.bool false) ∧ w' = w := by
  have h1 : (((n : Nat) : Int) != ((n : Nat) : Int)) = false := by simp
  go_enter Tryd.func54, Tryd.ntmps54
  go_wp2_with fail
  go_ret
  exact ⟨rfl, rfl⟩
set_option maxHeartbeats 4000000 in
set_option maxRecDepth 100000 in
theorem cmpu_any (m n : Nat) (w : World) : Calls Tryd.prog 41 #[.int .u32 (m : Int), .int .u32 (n : Int)] w fun e w' => e = .returned (.int .i64 (cmpN m n)) ∧ w' = w := by
  rcases Nat.lt_trichotomy m n with h | h | h
  · rw [cmpN_lt h]
    have h1 : decide ((m : Int) < (n : Int)) = true := decide_eq_true (by omega)
    have h2 : decide ((n : Int) < (m : Int)) = false := decide_eq_false (by omega)
    have h3 : decide ((m : Int) > (n : Int)) = false := decide_eq_false (by omega)
    have h4 : decide (m < n) = true := decide_eq_true (by omega)
    have h5 : decide (n < m) = false := decide_eq_false (by omega)
    clear h
    go_enter Tryd.func41, Tryd.ntmps41
    go_wp2_with (refine (isnan_any _ _).mono ?_; rintro e w' ⟨rfl, rfl⟩)
    go_ret
    exact ⟨rfl, rfl⟩
  · rw [cmpN_zero.2 h]
    have h1 : decide ((m : Int) < (n : Int)) = false := decide_eq_false (by omega)
    have h2 : decide ((n : Int) < (m : Int)) = false := decide_eq_false (by omega)
    have h3 : decide ((m : Int) > (n : Int)) = false := decide_eq_false (by omega)
    have h4 : decide (m < n) = false := decide_eq_false (by omega)
    have h5 : decide (n < m) = false := decide_eq_false (by omega)
    clear h
    go_enter Tryd.func41, Tryd.ntmps41
    go_wp2_with (refine (isnan_any _ _).mono ?_; rintro e w' ⟨rfl, rfl⟩)
    go_ret
    exact ⟨rfl, rfl⟩
  · rw [cmpN_gt h]
    have h1 : decide ((m : Int) < (n : Int)) = false := decide_eq_false (by omega)
    have h2 : decide ((n : Int) < (m : Int)) = true := decide_eq_true (by omega)
    have h3 : decide ((m : Int) > (n : Int)) = true := decide_eq_true (by omega)
    have h4 : decide (m < n) = false := decide_eq_false (by omega)
    have h5 : decide (n < m) = true := decide_eq_true (by omega)
    clear h
    go_enter Tryd.func41, Tryd.ntmps41
    go_wp2_with (refine (isnan_any _ _).mono ?_; rintro e w' ⟨rfl, rfl⟩)
    go_ret
    exact ⟨rfl, rfl⟩
set_option maxHeartbeats 4000000 in
set_option maxRecDepth 100000 in
theorem byLen_any (a b : Ky) (w : World) (ka : a.Ok) (kb : b.Ok) :
    Calls Tryd.prog 27 #[.agg (kcs a).toArray, .agg (kcs b).toArray] w fun e w' => e = .returned (.int .i64 (cmpN a.len b.len)) ∧ Below w.heap.size w w' := by
  have KA := Lib.hid ka; have KB := Lib.hid kb
  have CC := Lib.hid (fun w0 => cmpu_any a.len b.len w0)
  generalize cmpN a.len b.len = z at CC ⊢
  clear ka kb
  go_enter Tryd.func27, Tryd.ntmps27
  go_wp2_with (first
    | ((with_reducible refine at_slot 2 ?_); (refine arm_box (o := ⟨some 2, _, _, _, _, _⟩) rfl _ _ rfl (kcs a) rfl ?_); intro A v1 Ae hv1 nv1)
    | ((with_reducible refine at_slot 3 ?_); (refine arm_box (o := ⟨some 3, _, _, _, _, _⟩) rfl _ _ rfl (kcs b) rfl ?_); intro B v2 Be hv2 nv2)
    | ((with_reducible refine at_slot 6 ?_); (refine arm_want (num32 a.len) 6 rfl (by kernel_rfl) (run_op_load1 _ _ rfl (.int .u32) (by kernel_rfl) rfl ⟨A, 0, none⟩ rfl (num32 a.len) ((hv1.old nv2.below).cell (show Has (kcs a) 0 [num32 a.len] from k0 a).get)) ?_))
    | ((with_reducible refine at_slot 8 ?_); (refine arm_want (num32 b.len) 8 rfl (by kernel_rfl) (run_op_load1 _ _ rfl (.int .u32) (by kernel_rfl) rfl ⟨B, 0, none⟩ rfl (num32 b.len) (hv2.cell (show Has (kcs b) 0 [num32 b.len] from k0 b).get)) ?_)))
  have q0 := Ae.out
  have q1 := nv1.size
  have q2 := Be.out
  have q3 := nv2.size
  have lA : w.heap.size ≤ A := by omega
  have lB : w.heap.size ≤ B := by omega
  have nAB : A ≠ B := by omega
  have nBA : B ≠ A := by omega
  have rA3 : Row v2 A 54 (kcs a) := (hv1.old nv2.below)
  have rB3 : Row v2 B 54 (kcs b) := hv2
  have bel3 : Below w.heap.size w v2 := (below_step (below_step (Below.refl _ _) (by omega) nv1.below) (by omega) nv2.below)
  clear q0 q1 q2 q3 Ae hv1 nv1 Be hv2 nv2
  refine (CC.out _).mono ?_
  rintro e4 z4 ⟨rfl, rfl⟩
  go_wp2_with fail
  go_ret
  exact ⟨rfl, bel3⟩
set_option maxHeartbeats 4000000 in
set_option maxRecDepth 100000 in
theorem byDraw_any (a b : Ky) (w : World) (ka : a.Ok) (kb : b.Ok) :
    Calls Tryd.prog 28 #[.agg (kcs a).toArray, .agg (kcs b).toArray] w fun e w' => e = .returned (.int .i64 (cmpN (val a.draw) (val b.draw))) ∧ Below w.heap.size w w' := by
  have KA := Lib.hid ka; have KB := Lib.hid kb
  have CC := Lib.hid (fun w0 => hashes_any a.draw b.draw w0 ka.draw kb.draw)
  generalize cmpN (val a.draw) (val b.draw) = z at CC ⊢
  clear ka kb
  go_enter Tryd.func28, Tryd.ntmps28
  go_wp2_with (first
    | ((with_reducible refine at_slot 2 ?_); (refine arm_box (o := ⟨some 2, _, _, _, _, _⟩) rfl _ _ rfl (kcs a) rfl ?_); intro A v1 Ae hv1 nv1)
    | ((with_reducible refine at_slot 3 ?_); (refine arm_box (o := ⟨some 3, _, _, _, _, _⟩) rfl _ _ rfl (kcs b) rfl ?_); intro B v2 Be hv2 nv2)
    | ((with_reducible refine at_slot 6 ?_); (refine arm_load (o := ⟨some 6, _, _, _, _, _⟩) rfl _ _ rfl A 1 rfl (u8s a.draw) ((show Has (kcs a) 1 (u8s a.draw) from k1 a).range ((hv1.old nv2.below))) (szH KA.out.draw) ?_))
    | ((with_reducible refine at_slot 8 ?_); (refine arm_load (o := ⟨some 8, _, _, _, _, _⟩) rfl _ _ rfl B 1 rfl (u8s b.draw) ((show Has (kcs b) 1 (u8s b.draw) from k1 b).range (hv2)) (szH KB.out.draw) ?_)))
  have q0 := Ae.out
  have q1 := nv1.size
  have q2 := Be.out
  have q3 := nv2.size
  have lA : w.heap.size ≤ A := by omega
  have lB : w.heap.size ≤ B := by omega
  have nAB : A ≠ B := by omega
  have nBA : B ≠ A := by omega
  have rA3 : Row v2 A 54 (kcs a) := (hv1.old nv2.below)
  have rB3 : Row v2 B 54 (kcs b) := hv2
  have bel3 : Below w.heap.size w v2 := (below_step (below_step (Below.refl _ _) (by omega) nv1.below) (by omega) nv2.below)
  clear q0 q1 q2 q3 Ae hv1 nv1 Be hv2 nv2
  refine (CC.out _).mono ?_
  rintro e y4 ⟨rfl, hB⟩
  have rA4 : Row y4 A 54 (kcs a) := rA3.old hB
  have rB4 : Row y4 B 54 (kcs b) := rB3.old hB
  have bel4 : Below w.heap.size w y4 := below_step bel3 bel3.size hB
  clear hB rA3 rB3 bel3
  go_wp2_with fail
  go_ret
  exact ⟨rfl, bel4⟩
set_option maxHeartbeats 4000000 in
set_option maxRecDepth 100000 in
theorem byHash_any (a b : Ky) (w : World) (ka : a.Ok) (kb : b.Ok) :
    Calls Tryd.prog 29 #[.agg (kcs a).toArray, .agg (kcs b).toArray] w fun e w' => e = .returned (.int .i64 (cmpN (val a.hash) (val b.hash))) ∧ Below w.heap.size w w' := by
  have KA := Lib.hid ka; have KB := Lib.hid kb
  have CC := Lib.hid (fun w0 => hashes_any a.hash b.hash w0 ka.hash kb.hash)
  generalize cmpN (val a.hash) (val b.hash) = z at CC ⊢
  clear ka kb
  go_enter Tryd.func29, Tryd.ntmps29
  go_wp2_with (first
    | ((with_reducible refine at_slot 2 ?_); (refine arm_box (o := ⟨some 2, _, _, _, _, _⟩) rfl _ _ rfl (kcs a) rfl ?_); intro A v1 Ae hv1 nv1)
    | ((with_reducible refine at_slot 3 ?_); (refine arm_box (o := ⟨some 3, _, _, _, _, _⟩) rfl _ _ rfl (kcs b) rfl ?_); intro B v2 Be hv2 nv2)
    | ((with_reducible refine at_slot 6 ?_); (refine arm_load (o := ⟨some 6, _, _, _, _, _⟩) rfl _ _ rfl A 33 rfl (u8s a.hash) ((show Has (kcs a) 33 (u8s a.hash) from k33 KA.out).range ((hv1.old nv2.below))) (szH KA.out.hash) ?_))
    | ((with_reducible refine at_slot 8 ?_); (refine arm_load (o := ⟨some 8, _, _, _, _, _⟩) rfl _ _ rfl B 33 rfl (u8s b.hash) ((show Has (kcs b) 33 (u8s b.hash) from k33 KB.out).range (hv2)) (szH KB.out.hash) ?_)))
  have q0 := Ae.out
  have q1 := nv1.size
  have q2 := Be.out
  have q3 := nv2.size
  have lA : w.heap.size ≤ A := by omega
  have lB : w.heap.size ≤ B := by omega
  have nAB : A ≠ B := by omega
  have nBA : B ≠ A := by omega
  have rA3 : Row v2 A 54 (kcs a) := (hv1.old nv2.below)
  have rB3 : Row v2 B 54 (kcs b) := hv2
  have bel3 : Below w.heap.size w v2 := (below_step (below_step (Below.refl _ _) (by omega) nv1.below) (by omega) nv2.below)
  clear q0 q1 q2 q3 Ae hv1 nv1 Be hv2 nv2
  refine (CC.out _).mono ?_
  rintro e y4 ⟨rfl, hB⟩
  have rA4 : Row y4 A 54 (kcs a) := rA3.old hB
  have rB4 : Row y4 B 54 (kcs b) := rB3.old hB
  have bel4 : Below w.heap.size w y4 := below_step bel3 bel3.size hB
  clear hB rA3 rB3 bel3
  go_wp2_with fail
  go_ret
  exact ⟨rfl, bel4⟩
def fns : List Value := [.func (.func 27) #[] #[], .func (.func 28) #[] #[], .func (.func 29) #[] #[]]
theorem run_fns (w : World) : (Instr.buildSlice 100 3 #[(0, .func (.func 27) #[] #[]), (1, .func (.func 28) #[] #[]), (2, .func (.func 29) #[] #[])]).run Tryd.prog w = .ok (.slice (some ⟨w.heap.size, 0, none⟩) 3 3) (w.alloc (.cells fns.toArray 56)) := by kernel_rfl
theorem arm_fns {ops : Array Oper} {rest : List Oper} {o : Oper} {a : Act} {w : World} {Q : Exit → Act → World → Prop} (hgd : o.guard = none) (parts : Array (Nat × Operand)) (ho : o.op = .buildSlice 100 3 parts) (hpv : (parts.map fun (i, y) => (i, a.eval y)) = #[(0, .func (.func 27) #[] #[]), (1, .func (.func 28) #[] #[]), (2, .func (.func 29) #[] #[])])
    (h : ∀ b w2, Hid (b = w.heap.size) → Row w2 b 56 fns → New w w2 → wpList Tryd.prog ops Q rest (a.put o.dst (.slice (some ⟨b, 0, none⟩) 3 3)) w2) : wpList Tryd.prog ops Q (o :: rest) a w := by
  refine wpList_plain hgd fun K hK => ?_
  unfold Oper.wp execOp
  simp only [ho, hpv, Sem.run_bind, run_fns w, Result.andThen_ok, Sem.run_pure]
  exact hK _ _ (h _ _ rfl (heap_alloc_new _ _) (new_alloc _ _))
structure ItRel (w : World) (A B : Nat) (a b : Ky) (z0 z1 z2 : Int) (i : Value) (wr : World) : Prop where
  ex : i = .int .i64 0 ∨ (i = .int .i64 1 ∧ z0 = 0) ∨ (i = .int .i64 2 ∧ z0 = 0 ∧ z1 = 0) ∨ (i = .int .i64 3 ∧ z0 = 0 ∧ z1 = 0 ∧ z2 = 0)
  ra : Row wr A 54 (kcs a)
  rb : Row wr B 54 (kcs b)
  bel : Below w.heap.size w wr
theorem turn0 {a b : Ky} (j : a.Ok) (k : b.Ok) (h : cmpN a.len b.len ≠ 0) : kcmp a b = cmpN a.len b.len := by rw [kcmp_parts j k, if_neg h]
theorem turn1 {a b : Ky} (j : a.Ok) (k : b.Ok) (h : cmpN a.len b.len = 0) (g : cmpN (val a.draw) (val b.draw) ≠ 0) : kcmp a b = cmpN (val a.draw) (val b.draw) := by rw [kcmp_parts j k, if_pos h, if_neg g]
theorem turn2 {a b : Ky} (j : a.Ok) (k : b.Ok) (h : cmpN a.len b.len = 0) (g : cmpN (val a.draw) (val b.draw) = 0) : kcmp a b = cmpN (val a.hash) (val b.hash) := by rw [kcmp_parts j k, if_pos h, if_pos g]
set_option maxHeartbeats 4000000 in
set_option maxRecDepth 100000 in
theorem inTurn_any (a b : Ky) (P : Nat) (w : World) (ka : a.Ok) (kb : b.Ok) (hP : Row w P 56 fns) :
    Calls Tryd.prog 26 #[.agg (kcs a).toArray, .agg (kcs b).toArray, .slice (some ⟨P, 0, none⟩) 3 3] w fun e w' => e = .returned (.int .i64 (kcmp a b)) ∧ Below w.heap.size w w' := by
  have KA := Lib.hid ka; have KB := Lib.hid kb
  have FN : Hid (∀ w', Below w.heap.size w w' → Row w' P 56 fns) := Lib.hid fun w' hb => hP.old hb
  have C0 := Lib.hid (fun w0 => byLen_any a b w0 ka kb)
  have C1 := Lib.hid (fun w0 => byDraw_any a b w0 ka kb)
  have C2 := Lib.hid (fun w0 => byHash_any a b w0 ka kb)
  have Q0 := Lib.hid (turn0 ka kb); have Q1 := Lib.hid (turn1 ka kb); have Q2 := Lib.hid (turn2 ka kb)
  generalize kcmp a b = q at Q0 Q1 Q2 ⊢
  generalize cmpN a.len b.len = z0 at C0 Q0 Q1 Q2
  generalize cmpN (val a.draw) (val b.draw) = z1 at C1 Q1 Q2
  generalize cmpN (val a.hash) (val b.hash) = z2 at C2 Q2
  clear ka kb hP
  go_enter Tryd.func26, Tryd.ntmps26
  go_wp2_with (first
    | ((with_reducible refine at_slot 3 ?_); (refine arm_box (o := ⟨some 3, _, _, _, _, _⟩) rfl _ _ rfl (kcs a) rfl ?_); intro A v1 Ae hv1 nv1)
    | ((with_reducible refine at_slot 4 ?_); (refine arm_box (o := ⟨some 4, _, _, _, _, _⟩) rfl _ _ rfl (kcs b) rfl ?_); intro B v2 Be hv2 nv2))
  have q0 := Ae.out
  have q1 := nv1.size
  have q2 := Be.out
  have q3 := nv2.size
  have lA : w.heap.size ≤ A := by omega
  have lB : w.heap.size ≤ B := by omega
  have nAB : A ≠ B := by omega
  have nBA : B ≠ A := by omega
  have rA3 : Row v2 A 54 (kcs a) := (hv1.old nv2.below)
  have rB3 : Row v2 B 54 (kcs b) := hv2
  have bel3 : Below w.heap.size w v2 := (below_step (below_step (Below.refl _ _) (by omega) nv1.below) (by omega) nv2.below)
  clear q0 q1 q2 q3 Ae hv1 nv1 Be hv2 nv2
  have h0 : ItRel w A B a b z0 z1 z2 (.int .i64 0) v2 := ⟨.inl rfl, rA3, rB3, bel3⟩
  clear rA3 rB3 bel3
  go_loopw [12] (fun i wr => ItRel w A B a b z0 z1 z2 i wr) (fun i _ => 3 - (intOf i).toNat)
  case atStart => exact h0
  case round =>
    clear h0
    obtain ⟨hex, ra, rb, bel⟩ := hrel
    have FP := FN.out _ bel
    rcases hex with rfl | ⟨rfl, rfl⟩ | ⟨rfl, rfl, rfl⟩ | ⟨rfl, rfl, rfl, rfl⟩
    · skip
      go_wp2_with (first
        | ((with_reducible refine at_slot 15 ?_); (refine arm_want (.func (.func 27) #[] #[]) 15 rfl (by kernel_rfl) (run_op_load1 _ _ rfl (.func #[54, 54] #[3] false) (by kernel_rfl) rfl ⟨P, 0, none⟩ rfl (.func (.func 27) #[] #[]) (FP.cell rfl)) ?_))
        | ((with_reducible refine at_slot 17 ?_); (refine arm_load (o := ⟨some 17, _, _, _, _, _⟩) rfl _ _ rfl A 0 rfl (kcs a) ((show Has (kcs a) 0 (kcs a) from Has.refl _).range (ra)) (sz_key KA.out) ?_))
        | ((with_reducible refine at_slot 18 ?_); (refine arm_load (o := ⟨some 18, _, _, _, _, _⟩) rfl _ _ rfl B 0 rfl (kcs b) ((show Has (kcs b) 0 (kcs b) from Has.refl _).range (rb)) (sz_key KB.out) ?_)))
      clear FP
      refine (C0.out _).mono ?_
      rintro e y101 ⟨rfl, hB⟩
      have rA101 : Row y101 A 54 (kcs a) := ra.old hB
      have rB101 : Row y101 B 54 (kcs b) := rb.old hB
      have bel101 : Below w.heap.size w y101 := below_step bel bel.size hB
      clear hB ra rb bel
      by_cases hz : z0 = 0
      · subst hz
        go_wp2_with fail
        try simp only [Act.put]
        go_roundw
        case rel => exact ⟨.inr (.inl ⟨rfl, rfl⟩), rA101, rB101, bel101⟩
        case measure => decide
      · have hz1 : (z0 == 0) = false := beq_eq_false_iff_ne.2 hz
        have hz2 : (z0 != 0) = true := bne_iff_ne.2 hz
        have HQ := Lib.hid (Q0.out hz)
        clear hz Q0 Q1 Q2
        go_wp2_with fail
        rw [HQ.out]
        go_ret
        exact ⟨rfl, bel101⟩
    · skip
      go_wp2_with (first
        | ((with_reducible refine at_slot 15 ?_); (refine arm_want (.func (.func 28) #[] #[]) 15 rfl (by kernel_rfl) (run_op_load1 _ _ rfl (.func #[54, 54] #[3] false) (by kernel_rfl) rfl ⟨P, 1, none⟩ rfl (.func (.func 28) #[] #[]) (FP.cell rfl)) ?_))
        | ((with_reducible refine at_slot 17 ?_); (refine arm_load (o := ⟨some 17, _, _, _, _, _⟩) rfl _ _ rfl A 0 rfl (kcs a) ((show Has (kcs a) 0 (kcs a) from Has.refl _).range (ra)) (sz_key KA.out) ?_))
        | ((with_reducible refine at_slot 18 ?_); (refine arm_load (o := ⟨some 18, _, _, _, _, _⟩) rfl _ _ rfl B 0 rfl (kcs b) ((show Has (kcs b) 0 (kcs b) from Has.refl _).range (rb)) (sz_key KB.out) ?_)))
      clear FP
      refine (C1.out _).mono ?_
      rintro e y101 ⟨rfl, hB⟩
      have rA101 : Row y101 A 54 (kcs a) := ra.old hB
      have rB101 : Row y101 B 54 (kcs b) := rb.old hB
      have bel101 : Below w.heap.size w y101 := below_step bel bel.size hB
      clear hB ra rb bel
      by_cases hz : z1 = 0
      · subst hz
        go_wp2_with fail
        try simp only [Act.put]
        go_roundw
        case rel => exact ⟨.inr (.inr (.inl ⟨rfl, rfl, rfl⟩)), rA101, rB101, bel101⟩
        case measure => decide
      · have hz1 : (z1 == 0) = false := beq_eq_false_iff_ne.2 hz
        have hz2 : (z1 != 0) = true := bne_iff_ne.2 hz
        have HQ := Lib.hid (Q1.out (by first | rfl | trivial) hz)
        clear hz Q0 Q1 Q2
        go_wp2_with fail
        rw [HQ.out]
        go_ret
        exact ⟨rfl, bel101⟩
    · skip
      go_wp2_with (first
        | ((with_reducible refine at_slot 15 ?_); (refine arm_want (.func (.func 29) #[] #[]) 15 rfl (by kernel_rfl) (run_op_load1 _ _ rfl (.func #[54, 54] #[3] false) (by kernel_rfl) rfl ⟨P, 2, none⟩ rfl (.func (.func 29) #[] #[]) (FP.cell rfl)) ?_))
        | ((with_reducible refine at_slot 17 ?_); (refine arm_load (o := ⟨some 17, _, _, _, _, _⟩) rfl _ _ rfl A 0 rfl (kcs a) ((show Has (kcs a) 0 (kcs a) from Has.refl _).range (ra)) (sz_key KA.out) ?_))
        | ((with_reducible refine at_slot 18 ?_); (refine arm_load (o := ⟨some 18, _, _, _, _, _⟩) rfl _ _ rfl B 0 rfl (kcs b) ((show Has (kcs b) 0 (kcs b) from Has.refl _).range (rb)) (sz_key KB.out) ?_)))
      clear FP
      refine (C2.out _).mono ?_
      rintro e y101 ⟨rfl, hB⟩
      have rA101 : Row y101 A 54 (kcs a) := ra.old hB
      have rB101 : Row y101 B 54 (kcs b) := rb.old hB
      have bel101 : Below w.heap.size w y101 := below_step bel bel.size hB
      clear hB ra rb bel
      by_cases hz : z2 = 0
      · subst hz
        go_wp2_with fail
        try simp only [Act.put]
        go_roundw
        case rel => exact ⟨.inr (.inr (.inr ⟨rfl, rfl, rfl, rfl⟩)), rA101, rB101, bel101⟩
        case measure => decide
      · have hz1 : (z2 == 0) = false := beq_eq_false_iff_ne.2 hz
        have hz2 : (z2 != 0) = true := bne_iff_ne.2 hz
        have HQ := Lib.hid (Q2.out (by first | rfl | trivial) (by first | rfl | trivial))
        clear hz Q0 Q1 Q2
        go_wp2_with fail
        rw [HQ.out]
        go_ret
        exact ⟨rfl, bel101⟩
    · skip
      have HQ := Lib.hid (Q2.out rfl rfl)
      go_wp2_with fail
      rw [HQ.out]
      go_ret
      exact ⟨rfl, bel⟩
set_option maxHeartbeats 4000000 in
set_option maxRecDepth 100000 in
theorem compare_any (a b : Ky) (w : World) (ka : a.Ok) (kb : b.Ok) :
    Calls Tryd.prog 15 #[.agg (kcs a).toArray, .agg (kcs b).toArray] w fun e w' => e = .returned (.int .i64 (kcmp a b)) ∧ Below w.heap.size w w' := by
  have KA := Lib.hid ka; have KB := Lib.hid kb
  have CT := Lib.hid (fun P w0 h => inTurn_any a b P w0 ka kb h)
  generalize kcmp a b = q at CT ⊢
  clear ka kb
  go_enter Tryd.func15, Tryd.ntmps15
  go_wp2_with (first
    | ((with_reducible refine at_slot 2 ?_); (refine arm_box (o := ⟨some 2, _, _, _, _, _⟩) rfl _ _ rfl (kcs a) rfl ?_); intro A v1 Ae hv1 nv1)
    | ((with_reducible refine at_slot 3 ?_); (refine arm_box (o := ⟨some 3, _, _, _, _, _⟩) rfl _ _ rfl (kcs b) rfl ?_); intro B v2 Be hv2 nv2)
    | ((with_reducible refine at_slot 5 ?_); (refine arm_load (o := ⟨some 5, _, _, _, _, _⟩) rfl _ _ rfl A 0 rfl (kcs a) ((show Has (kcs a) 0 (kcs a) from Has.refl _).range ((hv1.old nv2.below))) (sz_key KA.out) ?_))
    | ((with_reducible refine at_slot 6 ?_); (refine arm_load (o := ⟨some 6, _, _, _, _, _⟩) rfl _ _ rfl B 0 rfl (kcs b) ((show Has (kcs b) 0 (kcs b) from Has.refl _).range (hv2)) (sz_key KB.out) ?_))
    | ((with_reducible refine at_slot 7 ?_); (refine arm_fns (o := ⟨some 7, _, _, _, _, _⟩) rfl _ rfl (by simp only [List.map_toArray, List.map_cons, List.map_nil]; rfl) ?_); intro F v3 Fe hv3 nv3))
  have q0 := Ae.out
  have q1 := nv1.size
  have q2 := Be.out
  have q3 := nv2.size
  have q4 := Fe.out
  have q5 := nv3.size
  have lA : w.heap.size ≤ A := by omega
  have lB : w.heap.size ≤ B := by omega
  have nAB : A ≠ B := by omega
  have nBA : B ≠ A := by omega
  have lF : w.heap.size ≤ F := by omega
  have nAF : A ≠ F := by omega
  have nFA : F ≠ A := by omega
  have nBF : B ≠ F := by omega
  have nFB : F ≠ B := by omega
  have rA4 : Row v3 A 54 (kcs a) := ((hv1.old nv2.below).old nv3.below)
  have rB4 : Row v3 B 54 (kcs b) := (hv2.old nv3.below)
  have rF4 : Row v3 F 56 (fns) := hv3
  have bel4 : Below w.heap.size w v3 := (below_step (below_step (below_step (Below.refl _ _) (by omega) nv1.below) (by omega) nv2.below) (by omega) nv3.below)
  clear q0 q1 q2 q3 q4 q5 Ae hv1 nv1 Be hv2 nv2 Fe hv3 nv3
  refine (CT.out F _ rF4).mono ?_
  rintro e y5 ⟨rfl, hB⟩
  have rA5 : Row y5 A 54 (kcs a) := rA4.old hB
  have rB5 : Row y5 B 54 (kcs b) := rB4.old hB
  have rF5 : Row y5 F 56 (fns) := rF4.old hB
  have bel5 : Below w.heap.size w y5 := below_step bel4 bel4.size hB
  clear hB rA4 rB4 rF4 bel4
  go_wp2_with fail
  go_ret
  exact ⟨rfl, bel5⟩
/-- A state's key. -/
def keyN (s : Sta) : Ky := ⟨s.len, s.draw, digS s⟩
theorem keyN_ok {s : Sta} (k : s.Ok) : (keyN s).Ok := ⟨k.len, k.draw, digS_ok s⟩
set_option maxHeartbeats 4000000 in
set_option maxRecDepth 100000 in
theorem of_any (s : Sta) (w : World) (ok : s.Ok) (hk : w.rangeAt 0 0 (u32s ks)) :
    Calls Tryd.prog 19 #[.agg (scs s).toArray] w fun e w' => e = .returned (.agg (kcs (keyN s)).toArray) ∧ Below w.heap.size w w' := by
  have hk1 : 0 < w.heap.size := range_lt hk (by simp [u32s, ks])
  have HKW : Hid (∀ w', Below w.heap.size w w' → w'.rangeAt 0 0 (u32s ks)) := Lib.hid fun w' hb => range_block hk (hb.block _ hk1)
  have OK := Lib.hid ok
  have KK := Lib.hid (keyN_ok ok)
  have KB := Lib.hid (built_key (keyN_ok ok))
  have CH := Lib.hid (fun w0 h => Sa.shash_any s w0 ok h)
  clear ok hk hk1
  go_enter Tryd.func19, Tryd.ntmps19
  go_wp2_with (first
    | ((with_reducible refine at_slot 1 ?_); (refine arm_box (o := ⟨some 1, _, _, _, _, _⟩) rfl _ _ rfl (scs s) rfl ?_); intro A v1 Ae hv1 nv1)
    | ((with_reducible refine at_slot 2 ?_); (refine arm_alloc (o := ⟨some 2, _, _, _, _, _⟩) rfl _ rfl (kcs zk) z_key ?_); intro R v2 Re hv2 nv2))
  have q0 := Ae.out
  have q1 := nv1.size
  have q2 := Re.out
  have q3 := nv2.size
  have lA : w.heap.size ≤ A := by omega
  have lR : w.heap.size ≤ R := by omega
  have nAR : A ≠ R := by omega
  have nRA : R ≠ A := by omega
  have rA3 : Row v2 A 41 (scs s) := (hv1.old nv2.below)
  have rR3 : Row v2 R 54 (kcs zk) := hv2
  have bel3 : Below w.heap.size w v2 := (below_step (below_step (Below.refl _ _) (by omega) nv1.below) (by omega) nv2.below)
  clear q0 q1 q2 q3 Ae hv1 nv1 Re hv2 nv2
  refine wp_region_held (S := fun w' => Row w' A 41 (scs s) ∧ True) (by kernel_rfl) ?_
  change wpAnyH _ _ _ _ _ _ _ _ v2.drew
  have rA4 : Row v2.drew A 41 (scs s) := rA3
  have rR4 : Row v2.drew R 54 (kcs zk) := rR3
  have bel4 : Below w.heap.size w v2.drew := bel3.trans ((Below.refl _ _).drew)
  clear rA3 rR3 bel3
  generalize v2.drew = y4 at rA4 rR4 bel4 ⊢
  refine h_take 0 (.pointer (some ⟨A, 97, none⟩)) rfl 3 rfl (by kernel_rfl) (by kernel_rfl) (by kernel_rfl) (by kernel_rfl) (fun _ _ _ h => h) (fun w' _ => by kernel_rfl) ⟨rA4, trivial⟩ ?_
  simp only [Act.put, List.setIfInBounds_toArray, List.set_cons_zero, List.set_cons_succ]
  refine h_take 1 (num32 s.len) rfl 4 rfl (by kernel_rfl) (by kernel_rfl) (by kernel_rfl) (by kernel_rfl) (fun _ _ _ h => h) (fun w' hw => run_op_load1 _ _ rfl (.int .u32) (by kernel_rfl) rfl ⟨A, 97, none⟩ rfl (num32 s.len) (hw.1.cell (show Has (scs s) 97 [num32 s.len] from h_lngth OK.out).get)) ⟨rA4, trivial⟩ ?_
  simp only [Act.put, List.setIfInBounds_toArray, List.set_cons_zero, List.set_cons_succ]
  refine h_take 2 (.pointer (some ⟨A, 64, none⟩)) rfl 5 rfl (by kernel_rfl) (by kernel_rfl) (by kernel_rfl) (by kernel_rfl) (fun _ _ _ h => h) (fun w' _ => by kernel_rfl) ⟨rA4, trivial⟩ ?_
  simp only [Act.put, List.setIfInBounds_toArray, List.set_cons_zero, List.set_cons_succ]
  refine h_take 3 (.agg (u8s s.draw).toArray) rfl 6 rfl (by kernel_rfl) (by kernel_rfl) (by kernel_rfl) (by kernel_rfl) (fun _ _ _ h => h) (fun w' hw => run_op_load _ _ rfl A 64 rfl (u8s s.draw) ((show Has (scs s) 64 (u8s s.draw) from h_drw OK.out).range hw.1) (szH OK.out.draw)) ⟨rA4, trivial⟩ ?_
  simp only [Act.put, List.setIfInBounds_toArray, List.set_cons_zero, List.set_cons_succ]
  refine h_take 4 (.agg (scs s).toArray) rfl 7 rfl (by kernel_rfl) (by kernel_rfl) (by kernel_rfl) (by kernel_rfl) (fun _ _ _ h => h) (fun w' hw => run_op_load _ _ rfl A 0 rfl (scs s) ((show Has (scs s) 0 (scs s) from Has.refl _).range hw.1) (sz_sta OK.out)) ⟨rA4, trivial⟩ ?_
  simp only [Act.put, List.setIfInBounds_toArray, List.set_cons_zero, List.set_cons_succ]
  refine h_one (i := 5) (by kernel_rfl) (o_call rfl 8 rfl (by kernel_rfl) (run_op_call 7 _ _ rfl #[.agg (scs s).toArray] (by simp only [List.map_toArray, List.map_cons, List.map_nil]; rfl) Tryd.func7 (by kernel_rfl) (by kernel_rfl) _) (CH.out y4 (HKW.out _ bel4)) ?_)
  rintro e y5 ⟨rfl, hB⟩
  have rA5 : Row y5 A 41 (scs s) := rA4.old hB
  have rR5 : Row y5 R 54 (kcs zk) := rR4.old hB
  have bel5 : Below w.heap.size w y5 := below_step bel4 bel4.size hB
  clear hB rA4 rR4 bel4
  refine ⟨_, rfl, ⟨rA5, trivial⟩, ?_⟩
  simp only [Act.put, List.setIfInBounds_toArray, List.set_cons_zero, List.set_cons_succ]
  refine h_take 6 (.agg (kcs (keyN s)).toArray) rfl 9 rfl (by kernel_rfl) (by kernel_rfl) (by kernel_rfl) (by kernel_rfl) (fun _ _ _ h => h) (fun w' hw => run_op_build _ _ rfl (kcs (keyN s)) (by simp only [List.map_toArray, List.map_cons, List.map_nil]; exact KB.out) w') ⟨rA5, trivial⟩ ?_
  simp only [Act.put, List.setIfInBounds_toArray, List.set_cons_zero, List.set_cons_succ]
  refine h_one (i := 7) (by kernel_rfl) (o_skip rfl rfl (by kernel_rfl) (run_op_store _ _ _ rfl R 0 rfl (kcs (keyN s)) rfl _ _ rR5 (fitK KK.out) (kcs_one _) (sz_key KK.out)) ?_)
  have rq := row_setRow rR5 (lay (kcs zk) 0 (kcs (keyN s)))
  have oq := Only.setRow R y5 (lay (kcs zk) 0 (kcs (keyN s))).toArray
  generalize y5.setRow R (lay (kcs zk) 0 (kcs (keyN s))).toArray = y6 at rq oq ⊢
  have rA6 : Row y6 A 41 (scs s) := rA5.only oq nAR
  have rR6 : Row y6 R 54 (kcs (keyN s)) := rq.congr (allK KK.out)
  have bel6 : Below w.heap.size w y6 := below_only bel5 oq lR bel5.size
  clear rA5 rR5 rq bel5 oq
  refine ⟨⟨rA6, trivial⟩, ?_⟩
  refine wpAnyH_done (by kernel_rfl) ?_ _
  go_wp2_with fail
  exact bodyPost_ret (v := .agg (kcs (keyN s)).toArray) (result_row (p := 2) (ty := 54) (u := 54) (by kernel_rfl) _ _ R (kcs (keyN s)) rfl rR6 (sz_key KK.out)) rfl ⟨rfl, bel6⟩
end Go.Proofs.YtnjmocobncncdaaDoor.Od

/-
  The contracts of the document's Hashes, Compare and Of of layer 12. Over this seat's translation.
-/
namespace Go.Proofs.YtnjmocobncncdaaDoor.Od
open Go.ChangeShapes Go.WideShapes Go.ChangeAt Go.RowKit Go.Proofs.YtnjmocobncncdaaDoor.Mem Go.Proofs.YtnjmocobncncdaaDoor.Bt Go.Proofs.YtnjmocobncncdaaDoor.Sl
open Go.Proofs.YtnjmocobncncdaaDoor.Ep (H32 zh zh_ok num32 Has h_len one_app one_num szH zH fitH allH)
open Go.Proofs.YtnjmocobncncdaaDoor.Sha (ks)
open Go.Proofs.YtnjmocobncncdaaDoor.Sa (Sta scs digS digS_ok sz_sta h_drw h_lngth)
set_option linter.unusedVariables false
set_option linter.unusedSimpArgs false

end Go.Proofs.YtnjmocobncncdaaDoor.Od

/-
  The contracts of order.Greatest and of the document's. Over this seat's translation.
-/
namespace Go.Proofs.YtnjmocobncncdaaDoor.Od
open Go.ChangeShapes Go.WideShapes Go.ChangeAt Go.RowKit Go.Proofs.YtnjmocobncncdaaDoor.Mem Go.Proofs.YtnjmocobncncdaaDoor.Bt Go.Proofs.YtnjmocobncncdaaDoor.Sl
open Go.Proofs.YtnjmocobncncdaaDoor.Ep (H32 zh zh_ok num32 Has h_len one_app one_num szH zH fitH allH)
open Go.Proofs.YtnjmocobncncdaaDoor.Sha (ks)
open Go.Proofs.YtnjmocobncncdaaDoor.Sa (Sta scs digS digS_ok sz_sta h_drw h_lngth)
set_option linter.unusedVariables false
set_option linter.unusedSimpArgs false

open Classical in
/-- The place of the first key that none is greater than; -1, if there is no key. -/
noncomputable def topF (l : List Ky) : Int := if h : ∃ j, Top l l.length j then ((Classical.choose h : Nat) : Int) else -1
theorem topF_nil : topF [] = -1 := dif_neg (fun ⟨j, h⟩ => by have := h.lt; simp at this)
theorem topF_of {l : List Ky} {j : Nat} (h : Top l l.length j) : topF l = (j : Int) := by
  unfold topF
  rw [dif_pos ⟨j, h⟩, Top.only (Classical.choose_spec (⟨j, h⟩ : ∃ j, Top l l.length j)) h (Nat.le_refl _)]
theorem topF_none {l : List Ky} (h : l.length = 0) : topF l = -1 := by rw [List.eq_nil_of_length_eq_zero h]; exact topF_nil
theorem topF_has {l : List Ky} (h : l.length ≠ 0) : ∃ j : Nat, topF l = (j : Int) ∧ Top l l.length j := by
  obtain ⟨n, hn⟩ : ∃ n, l.length = n + 1 := ⟨l.length - 1, by omega⟩
  obtain ⟨j, hj⟩ := Top.exists l n (by omega)
  rw [← hn] at hj
  exact ⟨j, topF_of hj, hj⟩
/-- Ahead of place k each key has a greater one. -/
def Lesser (l : List Ky) (k : Nat) : Prop := ∀ i b, i < k → l[i]? = some b → ∃ (j : Nat) (a : Ky), l[j]? = some a ∧ kval b < kval a
theorem Lesser.start (l : List Ky) : Lesser l 0 := fun i b h => by omega
theorem Lesser.more {l : List Ky} {k : Nat} (h : Lesser l k) (g : ∀ c, l[k]? = some c → ∃ (j : Nat) (a : Ky), l[j]? = some a ∧ kval c < kval a) : Lesser l (k + 1) := fun i b hi hb => by
  by_cases hk : i < k
  · exact h i b hk hb
  · obtain rfl : i = k := by omega
    exact g b hb
theorem Lesser.none {l : List Ky} (h : Lesser l l.length) : topF l = -1 := by
  by_cases h0 : l.length = 0
  · exact topF_none h0
  · obtain ⟨j, _, hj⟩ := topF_has h0
    have hl := hj.lt
    obtain ⟨b, hb⟩ : ∃ b, l[j]? = some b := ⟨_, List.getElem?_eq_getElem hl⟩
    obtain ⟨i, a, ha, hlt⟩ := h j b hl hb
    have := hj.all i a b (List.getElem?_eq_some_iff.1 ha).1 ha hb
    omega
end Go.Proofs.YtnjmocobncncdaaDoor.Od
