/-
  What a round of layer 10's GrowHistory keeps: the rows, what they tell. Over this seat's translation.
-/
import Derived.Test.YtmohlcmhogbkjaaDoorGroAwake
import Derived.Test.YtmohlcmhogbkjaaDoorGroHashes
import Derived.Test.YtmohlcmhogbkjaaDoorGroWhole2
import Derived.Test.YtmohlcmhogbkjaaDoorEpoAll
namespace Go.Proofs.YtmohlcmhogbkjaaDoor.Gr
open Go.ChangeShapes Go.WideShapes Go.ChangeAt Go.RowKit Go.Proofs.YtmohlcmhogbkjaaDoor.Mem Go.Proofs.YtmohlcmhogbkjaaDoor.Bt Go.Proofs.YtmohlcmhogbkjaaDoor.Rg Go.Proofs.YtmohlcmhogbkjaaDoor.Wn Go.Proofs.YtmohlcmhogbkjaaDoor.Sa Go.Proofs.YtmohlcmhogbkjaaDoor.Sha Go.Proofs.YtmohlcmhogbkjaaDoor.Wd
open Go.Proofs.YtmohlcmhogbkjaaDoor.Ep (H32 Dat Blk zh zh_ok num32 zd zd_ok Has h_len one_app one_num szH zH fitH allH dcs dcs_len dcs_one seedN seed_ok nextF nowF)
open Go.Proofs.YtmohlcmhogbkjaaDoor.Wi (blk)
set_option linter.unusedVariables false
set_option linter.unusedSimpArgs false

section
variable {P : Program} {ops : Array Oper} {Q : Exit → Act → World → Prop} {md : Region.Mode} {S : World → Prop} {a : Act} {w : World} {fuel : Nat} {listed : Array Bool} {o : Oper}
theorem h_three {i j l : Nat} (hr : Region.ready md ops listed = [i, j, l]) (h1 : wpOp P ops Q i (fun a' w' => S w' ∧ wpAnyH P md ops Q S fuel (listed.setIfInBounds i true) a' w') a w)
    (h2 : wpOp P ops Q j (fun a' w' => S w' ∧ wpAnyH P md ops Q S fuel (listed.setIfInBounds j true) a' w') a w)
    (h3 : wpOp P ops Q l (fun a' w' => S w' ∧ wpAnyH P md ops Q S fuel (listed.setIfInBounds l true) a' w') a w) : wpAnyH P md ops Q S (fuel + 1) listed a w :=
  wpAnyH_all hr (by simp) (fun k hk => by
    have hk' : k = i ∨ k = j ∨ k = l := by simpa using hk
    rcases hk' with rfl | rfl | rfl
    · exact h1
    · exact h2
    · exact h3)
end
theorem own_rowH {w : World} {b base : Nat} {x : List Nat} (hr : Row w b 23 (u8s x)) (hb : base ≤ b) (k : H32 x) : OwnH w base (some ⟨b, 0, none⟩) 1 [x] :=
  ⟨⟨by rw [xcs_one1, h_len k]; rfl, .inr ⟨b, 1, (u8s x).toArray, rfl, hb, hr, Nat.le_refl _, by unfold maxLen; omega, by rw [List.size_toArray, h_len k], by rw [xcs_one1]; exact List.take_of_length_le (by rw [h_len k]; exact Nat.le_refl _)⟩⟩, fun y hy => by rw [List.mem_singleton.1 hy]; exact k⟩
theorem O32.cap_le {w : World} {base : Nat} {p : Option Addr} {cap : Nat} {xs : List Nat} (h : O32 w base p cap xs) : xs.length ≤ cap := by
  rcases h.own.2 with ⟨hv, hl⟩ | ⟨g, cap', cur, hv, hg, hh, hc, _⟩
  · omega
  · obtain ⟨-, -, rfl⟩ : p = some ⟨g, 0, none⟩ ∧ xs.length = xs.length ∧ cap = cap' := by simpa using hv
    exact hc
theorem tB_ok {s : Sta} {t : Nat} (k : s.Ok) : (tB s t).Ok := by
  unfold tB
  split
  · exact ⟨k.next.led, k.next.seed, digS_ok s, zh_ok, (by decide : 0 < 4294967296)⟩
  · exact k.next
theorem tB_len {s : Sta} {t : Nat} : (tB s t).len ≤ s.next.len := by
  unfold tB
  split
  · exact Nat.zero_le _
  · exact Nat.le_refl _
theorem tC_ok {s : Sta} {t : Nat} (k : s.Ok) (h : s.next.len + 1 < 4294967296) : (tC s t).Ok := by
  have b := tB_ok (t := t) k
  have l := tB_len (s := s) (t := t)
  exact ⟨b.led, b.seed, b.start, b.lock, (by omega : (tB s t).len + 1 < 4294967296)⟩
theorem tD_ok {s : Sta} {t : Nat} (k : s.Ok) (h : s.next.len + 1 < 4294967296) : (tD s t).Ok := by
  have c := tC_ok (t := t) k h
  unfold tD
  split
  · exact ⟨c.led, c.seed, c.start, digS_ok s, c.len⟩
  · exact c
theorem sdF_ok {s : Sta} {t : Nat} {dr : List Nat} (k : s.Ok) : H32 (sdF s t dr) := by
  unfold sdF
  split
  · exact seed_ok _ _
  · exact k.next.seed
theorem cB_ok {s : Sta} {t : Nat} (k : s.Ok) : (cB s t).Ok := by
  unfold cB
  split
  · exact k.next
  · exact k.now
section
variable {d : Dat} {x : List Nat}
theorem lay_led0 (k : d.Ok) (hx : H32 x) : lay (dcs d) 0 (u8s x) = dcs ⟨x, d.seed, d.start, d.lock, d.len⟩ := by
  have h := Ep.lay_led k hx []
  rwa [List.append_nil, List.append_nil] at h
theorem lay_seed0 (k : d.Ok) (hx : H32 x) : lay (dcs d) 32 (u8s x) = dcs ⟨d.led, x, d.start, d.lock, d.len⟩ := by
  have h := Ep.lay_seed k hx []
  rwa [List.append_nil, List.append_nil] at h
theorem lay_start0 (k : d.Ok) (hx : H32 x) : lay (dcs d) 64 (u8s x) = dcs ⟨d.led, d.seed, x, d.lock, d.len⟩ := by
  have h := Ep.lay_start k hx []
  rwa [List.append_nil, List.append_nil] at h
theorem lay_lock0 (k : d.Ok) (hx : H32 x) : lay (dcs d) 96 (u8s x) = dcs ⟨d.led, d.seed, d.start, x, d.len⟩ := by
  have h := Ep.lay_lock k hx []
  rwa [List.append_nil, List.append_nil] at h
theorem set_len0 (k : d.Ok) (n : Nat) : (dcs d).set 128 (num32 n) = dcs ⟨d.led, d.seed, d.start, d.lock, n⟩ := by
  have h := Ep.set_len k n []
  rwa [List.append_nil, List.append_nil] at h
end
theorem z_dat0 : Mem.Zero Tryd.prog 31 (dcs zd) := Ep.z_dat
/-- What holds behind some of the steps. -/
structure GhRel (w : World) (x : List Nat) (n base V G C T X : Nat) (iv sv hv cv : Value) (wr : World) : Prop where
  ex : ∃ (k : Nat) (s : Sta) (xs : List Nat) (hs : List (List Nat)) (ps ph : Option Addr) (cs ch : Nat), k ≤ n ∧ iv = .int .i64 k ∧ sv = .slice ps xs.length cs ∧ hv = .slice ph hs.length ch ∧ cv = .int .u32 (s.count : Int) ∧ O32 wr base ps cs xs ∧ OwnH wr base ph ch hs ∧ blk ph ≠ some G ∧
    Row wr V 35 (scs s) ∧ Row wr G 23 (u8s s.next.seed) ∧ Row wr C 31 (dcs s.now) ∧ Row wr T 31 (dcs s.next) ∧ Row wr X 23 (u8s x) ∧
    GH x xs s ∧ s.Ok ∧ hs.length = xs.length ∧ hs[xs.length - 1]? = some (digS s) ∧ xs.length ≤ k + 1
  bel : Below w.heap.size w wr
  sz : base ≤ wr.heap.size
/-- What holds within a round, place by place of the ring. -/
structure GiRel (w : World) (base : Nat) (p : Option Addr) (cap : Nat) (xs : List Nat) (rows : World → Prop) (i : Value) (wr : World) : Prop where
  ex : ∃ b : Nat, b ≤ 4 ∧ i = .int .i64 b
  own : O32 wr base p cap xs
  rows_ : rows wr
  bel : Below w.heap.size w wr
  sz : base ≤ wr.heap.size
end Go.Proofs.YtmohlcmhogbkjaaDoor.Gr
