/-
  Messages over numbers and lists: which may be, their bytes, what is read of bytes; what is written is read, with a byte more or less nothing is; bytes come back. No program.
-/
import Derived.Test.YtghogoijjaiccaaStaDo
import Derived.Test.YtghogoijjaiccaaStaSpec
import Derived.Test.YtghogoijjaiccaaPrfAll
namespace Go.Proofs.Ytghogoijjaiccaa.Ms
open Go.RowKit Go.Proofs.Ytghogoijjaiccaa.Mem Go.Proofs.Ytghogoijjaiccaa.Bt Go.Proofs.Ytghogoijjaiccaa.Wi Go.Proofs.Ytghogoijjaiccaa.Ac Go.Proofs.Ytghogoijjaiccaa.Tr Go.Proofs.Ytghogoijjaiccaa.Pf
open Go.Proofs.Ytghogoijjaiccaa.Tg (bytesOf bytesOf_length bytesOf_lt bytesOf_inj)
open Go.Proofs.Ytghogoijjaiccaa.Ep (H32 zh zh_ok)
open Go.Proofs.Ytghogoijjaiccaa.Sa (Sta scs scs_len scs_one staB staR staB_len SRt rdS rdS_ok zs zs_ok)
set_option linter.unusedVariables false
set_option linter.unusedSimpArgs false

/-- What a message tells. -/
structure Msg where
  kind : Nat
  ver : Nat
  st : Sta
  pl : Int
  acc : Acct
  path : List (List Nat)
structure Msg.Ok (m : Msg) : Prop where
  kind : m.kind < 256
  ver : m.ver < 4294967296
  st : m.st.Ok
  lo : -9223372036854775808 ≤ m.pl
  hi : m.pl < 9223372036854775808
  acc : m.acc.Ok
  path : P4 m.path
/-- The empty one, and one of each kind. -/
def zm : Msg := ⟨0, 0, zs, 0, za, z4⟩
def hello (v : Nat) : Msg := ⟨1, v, zs, 0, za, z4⟩
def tip (s : Sta) : Msg := ⟨2, 0, s, 0, za, z4⟩
def leave : Msg := ⟨3, 0, zs, 0, za, z4⟩
def shown (p : Nat) (a : Acct) (L : List (List Nat)) : Msg := ⟨4, 0, zs, (p : Int), a, L⟩
theorem zm_ok : zm.Ok := ⟨by decide, by decide, zs_ok, by decide, by decide, za_ok, z4_p4⟩
theorem hello_ok {v : Nat} (h : v < 4294967296) : (hello v).Ok := ⟨(by decide : 1 < 256), h, zs_ok, (by decide : (-9223372036854775808 : Int) ≤ 0), (by decide : (0 : Int) < 9223372036854775808), za_ok, z4_p4⟩
theorem tip_ok {s : Sta} (h : s.Ok) : (tip s).Ok := ⟨(by decide : 2 < 256), (by decide : 0 < 4294967296), h, (by decide : (-9223372036854775808 : Int) ≤ 0), (by decide : (0 : Int) < 9223372036854775808), za_ok, z4_p4⟩
theorem leave_ok : leave.Ok := ⟨by decide, by decide, zs_ok, by decide, by decide, za_ok, z4_p4⟩
theorem shown_ok {p : Nat} {a : Acct} {L : List (List Nat)} (hp : p < 9223372036854775808) (ha : a.Ok) (hL : P4 L) : (shown p a L).Ok := ⟨(by decide : 4 < 256), (by decide : 0 < 4294967296), zs_ok, (by omega : -9223372036854775808 ≤ (p : Int)), (by omega : (p : Int) < 9223372036854775808), ha, hL⟩
theorem ok_ver {v : Nat} (k : (hello v).Ok) : v < 4294967296 := k.ver
theorem ok_st {s : Sta} (k : (tip s).Ok) : s.Ok := k.st
theorem ok_acc {p : Nat} {a : Acct} {L : List (List Nat)} (k : (shown p a L).Ok) : a.Ok := k.acc
theorem ok_path {p : Nat} {a : Acct} {L : List (List Nat)} (k : (shown p a L).Ok) : P4 L := k.path
/-- Its cells. -/
def mcs (m : Msg) : List Value := .int .u8 (m.kind : Int) :: .int .u32 (m.ver : Int) :: (scs m.st ++ (.int .i64 m.pl :: (acs m.acc ++ dgC m.path)))
theorem mcs_len {m : Msg} (k : m.Ok) : (mcs m).length = 497 := by
  unfold mcs
  rw [List.length_cons, List.length_cons, List.length_append, List.length_cons, List.length_append, scs_len k.st, acs_len, dg4 k.path.ok k.path.len]
theorem mcs_one (m : Msg) : OneCells (mcs m) := by
  intro v hv
  rcases List.mem_cons.1 hv with rfl | hv
  · rfl
  rcases List.mem_cons.1 hv with rfl | hv
  · rfl
  rcases List.mem_append.1 hv with hv | hv
  · exact scs_one _ v hv
  rcases List.mem_cons.1 hv with rfl | hv
  · rfl
  rcases List.mem_append.1 hv with hv | hv
  · exact acs_one _ v hv
  · exact dgC_ones _ v hv
theorem mcs_inj {m n : Msg} (k : m.Ok) (j : n.Ok) (h : mcs m = mcs n) : m = n := by
  obtain ⟨k1, v1, s1, p1, a1, L1⟩ := m
  obtain ⟨k2, v2, s2, p2, a2, L2⟩ := n
  unfold mcs at h
  simp only [List.cons.injEq, Value.int.injEq, true_and] at h
  obtain ⟨hk, hv, h⟩ := h
  obtain ⟨hs, h⟩ := List.append_inj h ((scs_len k.st).trans (scs_len j.st).symm)
  simp only [List.cons.injEq, Value.int.injEq, true_and] at h
  obtain ⟨hp, h⟩ := h
  obtain ⟨ha, hL⟩ := List.append_inj h ((acs_len _).trans (acs_len _).symm)
  obtain rfl : k1 = k2 := by omega
  obtain rfl : v1 = v2 := by omega
  obtain rfl : s1 = s2 := Sa.cells_inj k.st j.st hs
  obtain rfl : a1 = a2 := acs_inj ha
  obtain rfl : L1 = L2 := dgC_inj _ _ k.path.ok j.path.ok (k.path.len.trans j.path.len.symm) hL
  rw [hp]
theorem mcs_iff {m n : Msg} (k : m.Ok) (j : n.Ok) : mcs m = mcs n ↔ m = n := ⟨mcs_inj k j, fun h => by rw [h]⟩
/-- May it be? -/
def MRt (m : Msg) : Prop := (1 ≤ m.kind ∧ m.kind ≤ 4) ∧ (m.kind ≠ 1 → m.ver = 0) ∧ (m.kind ≠ 2 → m.st = zs) ∧ (m.kind ≠ 4 → m.pl = 0 ∧ m.acc = za ∧ m.path = z4) ∧ (m.kind = 2 → SRt m.st) ∧ (m.kind = 4 → 0 ≤ m.pl ∧ m.pl ≤ 15 ∧ NRt m.acc.nm)
theorem mrt_hello (v : Nat) : MRt (hello v) := ⟨⟨(by decide : 1 ≤ 1), (by decide : 1 ≤ 4)⟩, fun h => absurd rfl h, fun _ => rfl, fun _ => ⟨rfl, rfl, rfl⟩, fun h => absurd h (by decide : ¬ 1 = 2), fun h => absurd h (by decide : ¬ 1 = 4)⟩
theorem mrt_tip {s : Sta} (h : SRt s) : MRt (tip s) := ⟨⟨(by decide : 1 ≤ 2), (by decide : 2 ≤ 4)⟩, fun _ => rfl, fun h => absurd rfl h, fun _ => ⟨rfl, rfl, rfl⟩, fun _ => h, fun h => absurd h (by decide : ¬ 2 = 4)⟩
theorem mrt_leave : MRt leave := ⟨⟨(by decide : 1 ≤ 3), (by decide : 3 ≤ 4)⟩, fun _ => rfl, fun _ => rfl, fun _ => ⟨rfl, rfl, rfl⟩, fun h => absurd h (by decide : ¬ 3 = 2), fun h => absurd h (by decide : ¬ 3 = 4)⟩
theorem mrt_shown {p : Nat} {a : Acct} {L : List (List Nat)} (hp : p ≤ 15) (ha : NRt a.nm) : MRt (shown p a L) := ⟨⟨(by decide : 1 ≤ 4), (by decide : 4 ≤ 4)⟩, fun _ => rfl, fun _ => rfl, fun h => absurd rfl h, fun h => absurd h (by decide : ¬ 4 = 2), fun _ => ⟨(by omega : (0 : Int) ≤ (p : Int)), (by omega : (p : Int) ≤ 15), ha⟩⟩
theorem mrt_cases {m : Msg} (h : MRt m) : (∃ v, m = hello v) ∨ (∃ s, m = tip s ∧ SRt s) ∨ m = leave ∨ ∃ p a L, m = shown p a L ∧ p ≤ 15 ∧ NRt a.nm := by
  obtain ⟨k, v, s, p, a, L⟩ := m
  obtain ⟨⟨h1, h2⟩, hv, hs, h3, ht, h4⟩ := h
  change 1 ≤ k at h1
  change k ≤ 4 at h2
  change k ≠ 1 → v = 0 at hv
  change k ≠ 2 → s = zs at hs
  change k ≠ 4 → p = 0 ∧ a = za ∧ L = z4 at h3
  change k = 2 → SRt s at ht
  change k = 4 → 0 ≤ p ∧ p ≤ 15 ∧ NRt a.nm at h4
  obtain rfl | rfl | rfl | rfl : k = 1 ∨ k = 2 ∨ k = 3 ∨ k = 4 := by omega
  · obtain ⟨rfl, rfl, rfl⟩ := h3 (by decide)
    obtain rfl := hs (by decide)
    exact .inl ⟨v, rfl⟩
  · obtain ⟨rfl, rfl, rfl⟩ := h3 (by decide)
    obtain rfl := hv (by decide)
    exact .inr (.inl ⟨s, rfl, ht rfl⟩)
  · obtain ⟨rfl, rfl, rfl⟩ := h3 (by decide)
    obtain rfl := hv (by decide)
    obtain rfl := hs (by decide)
    exact .inr (.inr (.inl rfl))
  · obtain rfl := hv (by decide)
    obtain rfl := hs (by decide)
    obtain ⟨g1, g2, g3⟩ := h4 rfl
    obtain ⟨n, rfl⟩ : ∃ n : Nat, p = (n : Int) := ⟨p.toNat, by omega⟩
    exact .inr (.inr (.inr ⟨n, a, L, rfl, by omega, g3⟩))
theorem odd_ver {m : Msg} (h : MRt m) (hk : m.kind ≠ 1) (v : Nat) : MRt { m with ver := v } ↔ v = 0 := by
  obtain ⟨h1, hv, hs, h3, ht, h4⟩ := h
  exact ⟨fun g => g.2.1 hk, fun g => ⟨h1, fun _ => g, hs, h3, ht, h4⟩⟩
theorem odd_st {m : Msg} (h : MRt m) (hk : m.kind ≠ 2) (x : List Nat) : MRt { m with st := { m.st with led := x } } ↔ x = zh := by
  obtain ⟨h1, hv, hs, h3, ht, h4⟩ := h
  have e := hs hk
  refine ⟨fun g => ?_, fun g => ⟨h1, hv, fun _ => ?_, h3, fun q => absurd q hk, h4⟩⟩
  · exact congrArg Sta.led (g.2.2.1 hk)
  · subst g
    show ({ m.st with led := zh } : Sta) = zs
    rw [e]; rfl
theorem odd_pl {m : Msg} (h : MRt m) (hk : m.kind ≠ 4) (p : Int) : MRt { m with pl := p } ↔ p = 0 := by
  obtain ⟨h1, hv, hs, h3, ht, h4⟩ := h
  exact ⟨fun g => (g.2.2.2.1 hk).1, fun g => ⟨h1, hv, hs, fun _ => ⟨g, (h3 hk).2⟩, ht, fun q => absurd q hk⟩⟩
theorem odd_acc {m : Msg} (h : MRt m) (hk : m.kind ≠ 4) (a : Acct) : MRt { m with acc := a } ↔ a = za := by
  obtain ⟨h1, hv, hs, h3, ht, h4⟩ := h
  exact ⟨fun g => (g.2.2.2.1 hk).2.1, fun g => ⟨h1, hv, hs, fun _ => ⟨(h3 hk).1, g, (h3 hk).2.2⟩, ht, fun q => absurd q hk⟩⟩
theorem odd_path {m : Msg} (h : MRt m) (hk : m.kind ≠ 4) (x : List Nat) : MRt { m with path := m.path.set 0 x } ↔ x = zh := by
  obtain ⟨h1, hv, hs, h3, ht, h4⟩ := h
  have e := (h3 hk).2.2
  refine ⟨fun g => ?_, fun g => ⟨h1, hv, hs, fun _ => ⟨(h3 hk).1, (h3 hk).2.1, ?_⟩, ht, fun q => absurd q hk⟩⟩
  · have e1 : m.path.set 0 x = z4 := (g.2.2.2.1 hk).2.2
    rw [e] at e1
    exact (List.cons.inj e1).1
  · subst g
    show m.path.set 0 zh = z4
    rw [e]; rfl
def showB (p : Nat) (a : Acct) (L : List (List Nat)) : List Nat := p :: ((accB a).length :: (accB a ++ pathB L))
def msgB (m : Msg) : List Nat := if m.kind = 1 then 1 :: put m.ver 4 else if m.kind = 2 then 2 :: staB m.st else if m.kind = 3 then [3] else 4 :: showB m.pl.toNat m.acc m.path
theorem b_hello (v : Nat) : msgB (hello v) = 1 :: put v 4 := rfl
theorem b_tip (s : Sta) : msgB (tip s) = 2 :: staB s := rfl
theorem b_shown (p : Nat) (a : Acct) (L : List (List Nat)) : msgB (shown p a L) = 4 :: showB p a L := rfl
theorem accB_21 {a : Acct} (h : NRt a.nm) : 14 ≤ (accB a).length ∧ (accB a).length ≤ 21 := by
  have h1 := h.1
  have h2 := h.2.1
  rw [accB_len]
  omega
theorem showB_len {p : Nat} {a : Acct} {L : List (List Nat)} (hL : P4 L) : (showB p a L).length = 130 + (accB a).length := by
  unfold showB
  rw [List.length_cons, List.length_cons, List.length_append, pathB_len hL.ok, hL.len]
  omega
theorem staB_lt {s : Sta} (k : s.Ok) : AllLt 256 (staB s) := by
  have h : ∀ i, AllLt 256 (Sa.bP s i) := by
    intro i
    induction i with
    | zero => intro x hx; cases hx
    | succ i ih =>
      refine append_lt ih ?_
      unfold Sa.fB
      split
      · exact (Sa.hF_ok k i).lt
      · exact put_lt _ _
  exact h 22
theorem pathB_lt {L : List (List Nat)} (h : ∀ x ∈ L, H32 x) : AllLt 256 (pathB L) := by
  intro x hx
  obtain ⟨l, hl, hx⟩ := List.mem_flatten.1 hx
  exact (h l hl).lt x hx
theorem msgB_lt {m : Msg} (k : m.Ok) (h : MRt m) : AllLt 256 (msgB m) := by
  rcases mrt_cases h with ⟨v, rfl⟩ | ⟨s, rfl, hs⟩ | rfl | ⟨p, a, L, rfl, hp, ha⟩
  · intro x hx
    rcases List.mem_cons.1 hx with rfl | hx
    · omega
    · exact put_lt _ _ x hx
  · intro x hx
    rcases List.mem_cons.1 hx with rfl | hx
    · omega
    · exact staB_lt (ok_st k) x hx
  · intro x hx
    rcases List.mem_cons.1 hx with rfl | hx
    · omega
    · cases hx
  · have h21 := accB_21 ha
    have h2 := ha.2.1
    intro x hx
    rcases List.mem_cons.1 hx with rfl | hx
    · omega
    rcases List.mem_cons.1 hx with rfl | hx
    · omega
    rcases List.mem_cons.1 hx with rfl | hx
    · exact Nat.lt_of_le_of_lt h21.2 (by decide)
    rcases List.mem_append.1 hx with hx | hx
    · exact accB_lt (Nat.le_trans h2 (by decide)) x hx
    · exact pathB_lt (ok_path k).ok x hx
/-- How many bytes of one there are, by its first three. -/
def lenK : List Nat → Nat
  | 1 :: _ => 5
  | 2 :: _ => 397
  | 3 :: _ => 1
  | 4 :: _ :: n :: _ => 131 + n
  | _ => 0
theorem msg_len {m : Msg} (k : m.Ok) (h : MRt m) (r : List Nat) : lenK (msgB m ++ r) = (msgB m).length := by
  rcases mrt_cases h with ⟨v, rfl⟩ | ⟨s, rfl, hs⟩ | rfl | ⟨p, a, L, rfl, hp, ha⟩
  · rw [b_hello, List.length_cons, put_length]; rfl
  · rw [b_tip, List.length_cons, staB_len (ok_st k)]; rfl
  · rfl
  · rw [b_shown, List.length_cons, showB_len (ok_path k)]
    show 131 + (accB a).length = _
    omega
theorem msg_max {m : Msg} (k : m.Ok) (h : MRt m) : 1 ≤ (msgB m).length ∧ (msgB m).length ≤ 397 := by
  rcases mrt_cases h with ⟨v, rfl⟩ | ⟨s, rfl, hs⟩ | rfl | ⟨p, a, L, rfl, hp, ha⟩
  · rw [b_hello, List.length_cons, put_length]; omega
  · rw [b_tip, List.length_cons, staB_len (ok_st k)]; omega
  · decide
  · have := accB_21 ha
    rw [b_shown, List.length_cons, showB_len (ok_path k)]
    omega
def k1 (b : List Nat) : Nat × RS := numR 1 (b, 0)
def k2 (b : List Nat) : List Nat × RS := textR 255 (k1 b).2
def kh (b : List Nat) : Nat → RS
  | 0 => (k2 b).2
  | i + 1 => (hashR (kh b i)).2
theorem kh_succ (b : List Nat) (i : Nat) : kh b (i + 1) = (hashR (kh b i)).2 := rfl
def hh (b : List Nat) (i : Nat) : List Nat := (hashR (kh b i)).1
def hL (b : List Nat) : List (List Nat) := [hh b 0, hh b 1, hh b 2, hh b 3]
def shE (b : List Nat) : Nat := endR (kh b 4)
def rdW (b : List Nat) : Msg × Nat := if shE b ≠ 0 then (zm, shE b) else if (rdA (k2 b).1).2 ≠ 0 then (zm, (rdA (k2 b).1).2) else if 15 < (k1 b).1 then (zm, 1) else (shown (k1 b).1 (rdA (k2 b).1).1 (hL b), 0)
def q4 (b : List Nat) : Nat × RS := numR 4 (b, 0)
def rdH (b : List Nat) : Msg × Nat := if endR (q4 b).2 ≠ 0 then (zm, endR (q4 b).2) else (hello (q4 b).1, 0)
def rdT (b : List Nat) : Msg × Nat := if (rdS b).2 ≠ 0 then (zm, (rdS b).2) else (tip (rdS b).1, 0)
def rdV (b : List Nat) : Msg × Nat := if b = [] then (leave, 0) else (zm, 4)
def rdK (k : Nat) (b : List Nat) : Msg × Nat := if k = 1 then rdH b else if k = 2 then rdT b else if k = 3 then rdV b else if k = 4 then rdW b else (zm, 2)
def rdM (b : List Nat) : Msg × Nat := if 600 < b.length then (zm, 4) else if b = [] then (zm, 3) else rdK (b.getD 0 0) (b.drop 1)
theorem rd_cons {x : Nat} {r : List Nat} (h : r.length ≤ 599) : rdM (x :: r) = rdK x r := by
  unfold rdM
  rw [List.length_cons, if_neg (by omega), if_neg (by simp)]
  rfl
theorem rdK1 (b : List Nat) : rdK 1 b = rdH b := if_pos rfl
theorem rdK2 (b : List Nat) : rdK 2 b = rdT b := (if_neg (by decide)).trans (if_pos rfl)
theorem rdK3 (b : List Nat) : rdK 3 b = rdV b := (if_neg (by decide)).trans ((if_neg (by decide)).trans (if_pos rfl))
theorem rdK4 (b : List Nat) : rdK 4 b = rdW b := (if_neg (by decide)).trans ((if_neg (by decide)).trans ((if_neg (by decide)).trans (if_pos rfl)))
theorem snd_ne {α : Type} {x : α} {n : Nat} (h : (x, n).2 = 0) (hn : n ≠ 0) : False := hn h
theorem rd_over {b : List Nat} (h : 600 < b.length) : rdM b = (zm, 4) := if_pos h
theorem rd_none : rdM [] = (zm, 3) := rfl
/-- Where something goes wrong there is none. -/
theorem rd_wrong {b : List Nat} (h : (rdM b).2 ≠ 0) : (rdM b).1 = zm := by
  unfold rdM at h ⊢
  split
  · rfl
  rename_i h1
  rw [if_neg h1] at h
  split
  · rfl
  rename_i h2
  rw [if_neg h2] at h
  unfold rdK at h ⊢
  split
  · rename_i hk
    rw [if_pos hk] at h
    unfold rdH at h ⊢
    split
    · rfl
    · rename_i q; rw [if_neg q] at h; exact absurd rfl h
  rename_i g1
  rw [if_neg g1] at h
  split
  · rename_i hk
    rw [if_pos hk] at h
    unfold rdT at h ⊢
    split
    · rfl
    · rename_i q; rw [if_neg q] at h; exact absurd rfl h
  rename_i g2
  rw [if_neg g2] at h
  split
  · rename_i hk
    rw [if_pos hk] at h
    unfold rdV at h ⊢
    split
    · rename_i q; rw [if_pos q] at h; exact absurd rfl h
    · rfl
  rename_i g3
  rw [if_neg g3] at h
  split
  · rename_i hk
    rw [if_pos hk] at h
    unfold rdW at h ⊢
    split
    · rfl
    rename_i q
    rw [if_neg q] at h
    split
    · rfl
    rename_i q
    rw [if_neg q] at h
    split
    · rfl
    rename_i q
    rw [if_neg q] at h
    exact absurd rfl h
  · rfl
theorem hash_lt {s : RS} (h : AllLt 256 s.1) : H32 (hashR s).1 ∧ AllLt 256 (hashR s).2.1 := by
  refine ⟨?_, left_lt h⟩
  unfold hashR
  split
  · rename_i hk
    exact ⟨by rw [List.length_take]; omega, fun x hx => h x (List.mem_of_mem_take hx)⟩
  · exact zh_ok
theorem kh_lt {b : List Nat} (h : AllLt 256 b) : ∀ i, AllLt 256 (kh b i).1
  | 0 => (text_lt (left_lt h)).2
  | i + 1 => (hash_lt (kh_lt h i)).2
theorem hh_ok {b : List Nat} (h : AllLt 256 b) (i : Nat) : H32 (hh b i) := (hash_lt (kh_lt h i)).1
theorem hL_p4 {b : List Nat} (h : AllLt 256 b) : P4 (hL b) := ⟨fun x hx => by
  simp only [hL, List.mem_cons, List.not_mem_nil, or_false] at hx
  rcases hx with e | e | e | e
  · rw [e]; exact hh_ok h 0
  · rw [e]; exact hh_ok h 1
  · rw [e]; exact hh_ok h 2
  · rw [e]; exact hh_ok h 3, rfl⟩
theorem q4_lt {b : List Nat} (h : AllLt 256 b) : (q4 b).1 < 4294967296 := num_lt' (k := 4) (s := (b, 0)) h
theorem k1_lt {b : List Nat} (h : AllLt 256 b) : (k1 b).1 < 256 := num_lt' (k := 1) (s := (b, 0)) h
theorem k2_lt {b : List Nat} (h : AllLt 256 b) : AllLt 256 (k2 b).1 := (text_lt (s := (k1 b).2) (left_lt h)).1
theorem rdM_ok {b : List Nat} (h : AllLt 256 b) : (rdM b).1.Ok := by
  have hd : AllLt 256 (b.drop 1) := fun x hx => h x (List.mem_of_mem_drop hx)
  unfold rdM
  split
  · exact zm_ok
  split
  · exact zm_ok
  unfold rdK
  split
  · unfold rdH
    split
    · exact zm_ok
    · exact hello_ok (q4_lt hd)
  split
  · unfold rdT
    split
    · exact zm_ok
    · exact tip_ok (rdS_ok hd)
  split
  · unfold rdV
    split
    · exact leave_ok
    · exact zm_ok
  split
  · unfold rdW
    split
    · exact zm_ok
    split
    · exact zm_ok
    split
    · exact zm_ok
    · exact shown_ok (Nat.lt_of_lt_of_le (k1_lt hd) (by decide)) (rdA_ok (k2_lt hd)) (hL_p4 hd)
  · exact zm_ok
theorem s_back {s : Sta} (k : s.Ok) (h : SRt s) : rdS (staB s) = (s, 0) := by
  unfold rdS
  rw [Sa.end_all (staB_len k), Sa.sta_back k, if_neg (by decide), if_pos h]
theorem text_of (m : Int) (bs rest : List Nat) (h : (bs.length : Int) ≤ m) : textR m (bs.length :: (bs ++ rest), 0) = (bs, (rest, 0)) := by
  have h1 : numR 1 (bs.length :: (bs ++ rest), 0) = (bs.length, (bs ++ rest, 0)) := by
    have := numR_all [bs.length] (bs ++ rest) 0 1 rfl
    rw [numOf_one] at this
    exact this
  unfold textR
  rw [h1, if_neg (by omega)]
  exact takeR_all bs rest 0 bs.length rfl
theorem hash_of {x : List Nat} (h : x.length = 32) (r : List Nat) : hashR (x ++ r, 0) = (x, (r, 0)) := by
  unfold hashR
  rw [takeR_all x r 0 32 h, if_pos (by rw [List.length_append]; omega), ← h, List.take_left]
theorem w_back {p : Nat} {a : Acct} {L : List (List Nat)} (hp : p ≤ 15) (ka : a.Ok) (ha : NRt a.nm) (h4 : P4 L) : rdW (showB p a L) = (shown p a L, 0) := by
  have h21 := accB_21 ha
  obtain ⟨x, y, z, u, rfl⟩ : ∃ x y z u, L = [x, y, z, u] := by
    have := h4.len
    rcases L with _ | ⟨x, _ | ⟨y, _ | ⟨z, _ | ⟨u, _ | ⟨v, r⟩⟩⟩⟩⟩ <;> simp at this
    exact ⟨x, y, z, u, rfl⟩
  have hx := (h4.ok x (by simp)).len
  have hy := (h4.ok y (by simp)).len
  have hz := (h4.ok z (by simp)).len
  have hu := (h4.ok u (by simp)).len
  have e1 : k1 (showB p a [x, y, z, u]) = (p, ((accB a).length :: (accB a ++ (x ++ (y ++ (z ++ (u ++ []))))), 0)) := by
    have := numR_all [p] ((accB a).length :: (accB a ++ pathB [x, y, z, u])) 0 1 rfl
    rw [numOf_one] at this
    unfold k1 showB
    refine this.trans ?_
    simp [pathB]
  have e2 : k2 (showB p a [x, y, z, u]) = (accB a, (x ++ (y ++ (z ++ (u ++ []))), 0)) := by
    unfold k2
    rw [e1]
    exact text_of 255 _ _ (by omega)
  have g0 : kh (showB p a [x, y, z, u]) 0 = (x ++ (y ++ (z ++ (u ++ []))), 0) := by unfold kh; rw [e2]
  have g1 : kh (showB p a [x, y, z, u]) 1 = (y ++ (z ++ (u ++ [])), 0) := by unfold kh; rw [g0, hash_of hx]
  have g2 : kh (showB p a [x, y, z, u]) 2 = (z ++ (u ++ []), 0) := by unfold kh; rw [g1, hash_of hy]
  have g3 : kh (showB p a [x, y, z, u]) 3 = (u ++ [], 0) := by unfold kh; rw [g2, hash_of hz]
  have g4 : kh (showB p a [x, y, z, u]) 4 = ([], 0) := by unfold kh; rw [g3, hash_of hu]
  have gl : hL (showB p a [x, y, z, u]) = [x, y, z, u] := by
    unfold hL hh
    rw [g0, g1, g2, g3, hash_of hx, hash_of hy, hash_of hz, hash_of hu]
  have ge : shE (showB p a [x, y, z, u]) = 0 := by unfold shE; rw [g4]; rfl
  unfold rdW
  rw [ge, e2, acc_back ka ha, e1, gl, if_neg (fun h => h rfl), if_neg (fun h => h rfl), if_neg (by omega)]
/-- Messages come back from their bytes. -/
theorem msg_back {m : Msg} (k : m.Ok) (h : MRt m) : rdM (msgB m) = (m, 0) := by
  have hl := msg_max k h
  rcases mrt_cases h with ⟨v, rfl⟩ | ⟨s, rfl, hs⟩ | rfl | ⟨p, a, L, rfl, hp, ha⟩
  · rw [b_hello, rd_cons (by rw [put_length]; omega)]
    have e : q4 (put v 4) = (v, ([], 0)) := by
      have := numR_all (put v 4) [] 0 4 (put_length _ _)
      rw [List.append_nil, numOf_put, Nat.mod_eq_of_lt (Nat.lt_of_lt_of_le (ok_ver k) (by decide))] at this
      exact this
    rw [rdK1]
    unfold rdH
    rw [e]
    rfl
  · rw [b_tip, rd_cons (by rw [staB_len (ok_st k)]; omega)]
    rw [rdK2]
    unfold rdT
    rw [s_back (ok_st k) hs, if_neg (fun h => h rfl)]
  · rfl
  · have h21 := accB_21 ha
    rw [b_shown, rd_cons (by rw [showB_len (ok_path k)]; omega)]
    rw [rdK4]
    exact w_back hp (ok_acc k) ha (ok_path k)
/-- Unlike ones have unlike bytes. -/
theorem msgB_inj {m n : Msg} (k : m.Ok) (j : n.Ok) (hm : MRt m) (hn : MRt n) (h : msgB m = msgB n) : m = n := by
  have h1 := msg_back k hm
  rw [h, msg_back j hn] at h1
  exact (congrArg Prod.fst h1).symm
theorem bytes_s {b : List Nat} (hlt : AllLt 256 b) (h : (rdS b).2 = 0) : staB (rdS b).1 = b ∧ SRt (rdS b).1 := by
  unfold rdS at h ⊢
  by_cases he : endR (Sa.qs b 22) ≠ 0
  · rw [if_pos he] at h; exact (snd_ne h he).elim
  rw [if_neg he] at h ⊢
  by_cases hc : SRt (staR b)
  · rw [if_pos hc]
    refine ⟨?_, hc⟩
    have he0 : endR (Sa.qs b 22) = 0 := Decidable.not_not.1 he
    have hl : b.length = 396 := by
      rcases Nat.lt_trichotomy b.length 396 with q | q | q
      · rw [Sa.end_short q] at he0; cases he0
      · exact q
      · rw [Sa.end_long q] at he0; cases he0
    exact Sa.bytes_back hl hlt
  · rw [if_neg hc] at h; cases h
theorem text_done {m : Int} {s : RS} (hlt : AllLt 256 s.1) (h : (textR m s).2.2 = 0) : s.2 = 0 ∧ s.1 = ((textR m s).1.length :: (textR m s).1) ++ (textR m s).2.1 := by
  unfold textR at h ⊢
  split
  · rename_i hb
    rw [if_pos hb] at h
    simp only [failed] at h
    split at h
    · cases h
    · rename_i hn; exact absurd h hn
  · rename_i hb
    rw [if_neg hb] at h
    obtain ⟨h1, h2, h3, h4⟩ := take_end h
    obtain ⟨h5, h6⟩ := num_end (k := 1) hlt h1
    have hn := num_lt' (k := 1) (s := s) hlt
    refine ⟨h5, ?_⟩
    rw [h4]
    have e : put (numR 1 s).1 1 = [(numR 1 s).1] := by rw [put1, Nat.mod_eq_of_lt (by omega)]
    rw [e] at h6
    rw [List.cons_append, ← h3]
    exact h6
theorem hash_done {s : RS} (h : (hashR s).2.2 = 0) : s.2 = 0 ∧ s.1 = (hashR s).1 ++ (hashR s).2.1 := by
  obtain ⟨h1, h2, h3, h4⟩ := take_end (k := 32) (s := s) h
  refine ⟨h1, ?_⟩
  have e : (hashR s).1 = (takeR 32 s).1 := by
    unfold hashR takeR
    rw [if_pos h2, if_pos h2]
  rw [e]
  exact h3
theorem end_zero {s : RS} (h : endR s = 0) : s.2 = 0 ∧ s.1 = [] := by
  unfold endR at h
  split at h
  · rename_i hn; exact absurd h hn
  · rename_i hn
    split at h
    · rename_i h0; exact ⟨Decidable.not_not.1 hn, h0⟩
    · cases h
theorem w_bytes {b : List Nat} (hlt : AllLt 256 b) (h : (rdW b).2 = 0) : ∃ p a L, (rdW b).1 = shown p a L ∧ p ≤ 15 ∧ NRt a.nm ∧ showB p a L = b := by
  unfold rdW at h ⊢
  by_cases he : shE b ≠ 0
  · rw [if_pos he] at h; exact (snd_ne h he).elim
  rw [if_neg he] at h ⊢
  by_cases ha : (rdA (k2 b).1).2 ≠ 0
  · rw [if_pos ha] at h; exact (snd_ne h ha).elim
  rw [if_neg ha] at h ⊢
  by_cases hp : 15 < (k1 b).1
  · rw [if_pos hp] at h; cases h
  rw [if_neg hp]
  refine ⟨_, _, _, rfl, by omega, (Ac.bytes_back (k2_lt hlt) (Decidable.not_not.1 ha)).2, ?_⟩
  obtain ⟨z1, z2⟩ := end_zero (Decidable.not_not.1 he)
  have n4 : kh b 4 = (hashR (kh b 3)).2 := kh_succ b 3
  have n3 : kh b 3 = (hashR (kh b 2)).2 := kh_succ b 2
  have n2 : kh b 2 = (hashR (kh b 1)).2 := kh_succ b 1
  have n1 : kh b 1 = (hashR (kh b 0)).2 := kh_succ b 0
  have n0 : kh b 0 = (k2 b).2 := by unfold kh; rfl
  rw [n4] at z1 z2
  obtain ⟨d4, f4⟩ := hash_done z1
  rw [z2] at f4
  rw [n3] at d4
  obtain ⟨d3, f3⟩ := hash_done d4
  rw [← n3] at f3
  rw [n2] at d3
  obtain ⟨d2, f2⟩ := hash_done d3
  rw [← n2] at f2
  rw [n1] at d2
  obtain ⟨d1, f1⟩ := hash_done d2
  rw [← n1] at f1
  rw [n0] at d1
  obtain ⟨d0, f0⟩ := text_done (m := 255) (s := (k1 b).2) (left_lt hlt) d1
  obtain ⟨_, fk⟩ := num_end (k := 1) (s := (b, 0)) hlt d0
  have hk := k1_lt hlt
  have ek : put (numR 1 (b, 0)).1 1 = [(k1 b).1] := by
    show put (k1 b).1 1 = _
    rw [put1, Nat.mod_eq_of_lt hk]
  rw [ek] at fk
  have c0 : (k1 b).2.1 = (k2 b).1.length :: ((k2 b).1 ++ (kh b 0).1) := by rw [n0]; exact f0
  have c1 : (kh b 0).1 = hh b 0 ++ (kh b 1).1 := f1
  have c2 : (kh b 1).1 = hh b 1 ++ (kh b 2).1 := f2
  have c3 : (kh b 2).1 = hh b 2 ++ (kh b 3).1 := f3
  have c4 : (kh b 3).1 = hh b 3 ++ [] := f4
  have cb : b = (k1 b).1 :: (k1 b).2.1 := fk
  have hA := (Ac.bytes_back (k2_lt hlt) (Decidable.not_not.1 ha)).1
  unfold showB
  rw [hA]
  have hP : pathB (hL b) = (kh b 0).1 := by rw [c1, c2, c3, c4]; simp [pathB, hL]
  rw [hP, ← c0, ← cb]
theorem bytes_back {b : List Nat} (hlt : AllLt 256 b) (h : (rdM b).2 = 0) : msgB (rdM b).1 = b ∧ MRt (rdM b).1 := by
  have hd : AllLt 256 (b.drop 1) := fun x hx => hlt x (List.mem_of_mem_drop hx)
  unfold rdM at h ⊢
  by_cases h1 : 600 < b.length
  · rw [if_pos h1] at h; cases h
  rw [if_neg h1] at h ⊢
  by_cases h2 : b = []
  · rw [if_pos h2] at h; cases h
  rw [if_neg h2] at h ⊢
  obtain ⟨x, r, rfl⟩ := List.exists_cons_of_ne_nil h2
  change (rdK x r).2 = 0 at h
  show msgB (rdK x r).1 = x :: r ∧ MRt (rdK x r).1
  change AllLt 256 r at hd
  unfold rdK at h ⊢
  by_cases g1 : x = 1
  · subst g1
    rw [if_pos rfl] at h ⊢
    unfold rdH at h ⊢
    by_cases he : endR (q4 r).2 ≠ 0
    · rw [if_pos he] at h; exact (snd_ne h he).elim
    rw [if_neg he]
    obtain ⟨z1, z2⟩ := end_zero (Decidable.not_not.1 he)
    obtain ⟨_, f⟩ := num_end (k := 4) (s := (r, 0)) hd z1
    refine ⟨?_, mrt_hello _⟩
    have z3 : (numR 4 (r, 0)).2.1 = [] := z2
    rw [z3, List.append_nil] at f
    exact (b_hello _).trans (congrArg (List.cons 1) f.symm)
  rw [if_neg g1] at h ⊢
  by_cases g2 : x = 2
  · subst g2
    rw [if_pos rfl] at h ⊢
    unfold rdT at h ⊢
    by_cases he : (rdS r).2 ≠ 0
    · rw [if_pos he] at h; exact (snd_ne h he).elim
    rw [if_neg he]
    obtain ⟨f1, f2⟩ := bytes_s hd (Decidable.not_not.1 he)
    refine ⟨?_, mrt_tip f2⟩
    exact (b_tip _).trans (congrArg (List.cons 2) f1)
  rw [if_neg g2] at h ⊢
  by_cases g3 : x = 3
  · subst g3
    rw [if_pos rfl] at h ⊢
    unfold rdV at h ⊢
    by_cases he : r = []
    · subst he
      rw [if_pos rfl]
      exact ⟨rfl, mrt_leave⟩
    · rw [if_neg he] at h; cases h
  rw [if_neg g3] at h ⊢
  by_cases g4 : x = 4
  · subst g4
    rw [if_pos rfl] at h ⊢
    obtain ⟨p, a, L, e, hp, ha, f⟩ := w_bytes hd h
    rw [e]
    refine ⟨?_, mrt_shown hp ha⟩
    rw [b_shown, f]
  · rw [if_neg g4] at h; cases h
theorem msg_more {m : Msg} (k : m.Ok) (h : MRt m) : (rdM (msgB m ++ [0])).2 ≠ 0 := by
  intro e
  have hlt : AllLt 256 (msgB m ++ [0]) := append_lt (msgB_lt k h) (fun x hx => by simp at hx; omega)
  obtain ⟨f1, f2⟩ := bytes_back hlt e
  have g := msg_len (rdM_ok hlt) f2 []
  rw [f1, List.append_nil, msg_len k h, List.length_append] at g
  simp at g
theorem msg_less {m : Msg} (k : m.Ok) (h : MRt m) : (rdM ((msgB m).take ((msgB m).length - 1))).2 ≠ 0 := by
  intro e
  have hl := msg_max k h
  have hlt : AllLt 256 ((msgB m).take ((msgB m).length - 1)) := fun x hx => msgB_lt k h x (List.mem_of_mem_take hx)
  obtain ⟨f1, f2⟩ := bytes_back hlt e
  have g := msg_len (rdM_ok hlt) f2 ((msgB m).drop ((msgB m).length - 1))
  have g2 := msg_len k h []
  rw [f1, List.take_append_drop, ← List.append_nil (msgB m), g2, List.append_nil, List.length_take] at g
  omega
end Go.Proofs.Ytghogoijjaiccaa.Ms
