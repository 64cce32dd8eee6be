/-
  The states of layer 13's awake: three children of a first state; near ones, densities, who wins, the tip that is kept; the digests of two of them, reckoned by the kernel. Over this seat's translation.
-/
import Derived.Test.YtffpifljeeikfaaGreatDoorChoMem
import Derived.Test.YtffpifljeeikfaaGreatDoorGroAll
namespace Go.Proofs.YtffpifljeeikfaaGreatDoor.Cz
open Go.Proofs.YtffpifljeeikfaaGreatDoor.Mem Go.Proofs.YtffpifljeeikfaaGreatDoor.Bt Go.Proofs.YtffpifljeeikfaaGreatDoor.Sa Go.Proofs.YtffpifljeeikfaaGreatDoor.Gr
open Go.Proofs.YtffpifljeeikfaaGreatDoor.Od (Ky val kval keyN keyN_ok kval_len kval_draw hash_at)
open Go.Proofs.YtffpifljeeikfaaGreatDoor.Ep (H32 zh zh_ok seedN)
set_option linter.unusedVariables false
set_option linter.unusedSimpArgs false

/-- A digest of one byte, and zeros. -/
def hn (n : Nat) : List Nat := n :: List.replicate 31 0
theorem hn_ok {n : Nat} (h : n < 256) : H32 (hn n) := ⟨by unfold hn; simp, fun x hx => by
  unfold hn at hx
  rcases List.mem_cons.1 hx with rfl | hx
  · exact h
  · have := List.eq_of_mem_replicate hx; omega⟩
def b3 : Gb := ⟨3, zh, zh⟩
def b5 : Gb := ⟨5, zh, hn 1⟩
def b100 : Gb := ⟨100, zh, zh⟩
theorem b3_ok : b3.Ok := ⟨(by decide : 3 < 4294967296), zh_ok, zh_ok⟩
theorem b5_ok : b5.Ok := ⟨(by decide : 5 < 4294967296), zh_ok, hn_ok (by decide)⟩
theorem b100_ok : b100.Ok := ⟨(by decide : 100 < 4294967296), zh_ok, zh_ok⟩
def g1 : Sta := genS (hn 1)
theorem g1_ok : g1.Ok := gen_ok (hn_ok (by decide))
/-- The digests that are met. -/
def dgL : List Nat := [52, 61, 213, 89, 188, 4, 16, 215, 113, 30, 251, 235, 162, 20, 2, 205, 91, 192, 145, 229, 44, 121, 81, 44, 194, 113, 124, 188, 11, 171, 95, 38]
def sdL : List Nat := [29, 224, 169, 140, 46, 86, 99, 87, 33, 181, 40, 153, 160, 156, 18, 161, 23, 68, 193, 180, 106, 156, 12, 188, 228, 85, 206, 96, 221, 37, 60, 42]
theorem dg_is : digS g1 = dgL := by kernel_rfl
theorem sd_is : seedN zh zh = sdL := by kernel_rfl
def aL : Sta := ⟨dgL, zh, zh, 3, 2, 0, 12, 1, [1, 1, 3, 3], ⟨hn 1, zh, zh, zh, 1⟩, ⟨hn 1, sdL, zh, dgL, 2⟩⟩
def fL : Sta := ⟨dgL, zh, zh, 100, 2, 1, 0, 33, [0, 1, 0, 0], ⟨hn 1, zh, zh, zh, 1⟩, ⟨hn 1, sdL, dgL, dgL, 1⟩⟩
def bL : Sta := grown g1 b5
theorem a_is : grown g1 b3 = aL := by
  have h : grown g1 b3 = ⟨digS g1, zh, zh, 3, 2, 0, 12, 1, [1, 1, 3, 3], ⟨hn 1, zh, zh, zh, 1⟩, ⟨hn 1, seedN zh zh, zh, digS g1, 2⟩⟩ := by kernel_rfl
  rw [h, dg_is, sd_is]; rfl
theorem f_is : grown g1 b100 = fL := by
  have h : grown g1 b100 = ⟨digS g1, zh, zh, 100, 2, 1, 0, 33, [0, 1, 0, 0], ⟨hn 1, zh, zh, zh, 1⟩, ⟨hn 1, seedN zh zh, digS g1, digS g1, 1⟩⟩ := by kernel_rfl
  rw [h, dg_is, sd_is]; rfl
theorem a_dig : (digS aL).getD 0 0 = 143 := by kernel_rfl
theorem f_dig : (digS fL).getD 0 0 = 197 := by kernel_rfl
structure AwkIs (g a b f : Sta) : Prop where
  ga : chE g b3 = 0 ∧ chS g b3 = a
  gb : chE g b5 = 0 ∧ chS g b5 = b
  gf : chE g b100 = 0 ∧ chS g b100 = f
  kg : g.Ok
  ka : a.Ok
  kb : b.Ok
  kf : f.Ok
  rg : SRt g
  ra : SRt a
  rb : SRt b
  rf : SRt f
  nab : nearP a b
  naf : ¬ nearP a f
  wga : winP g a
  wag : ¬ winP a g
  wab : winP a b
  wba : ¬ winP b a
  da : denN a (asN a f) = 0
  df : denN f (asN a f) = 0
  wx : (winP a f ∧ ¬ winP f a) ∨ (¬ winP a f ∧ winP f a)
  fo : foldF g [a, b, a] = (b, 2)
theorem a_den : denN aL (asN aL fL) = 0 := by kernel_rfl
theorem f_den : denN fL (asN aL fL) = 0 := by kernel_rfl
set_option maxRecDepth 100000 in
theorem awk_is : ∃ a b f, AwkIs g1 a b f := by
  have n0 : nsOf g1 = ⟨0, 1, 0, 12, 0, [1, 3, 3, 3], 1⟩ := rfl
  have f3 : Fine g1 b3 := fine_of (by rw [n0]; decide)
  have f5 : Fine g1 b5 := fine_of (by rw [n0]; decide)
  have f100 : Fine g1 b100 := fine_of (by rw [n0]; decide)
  have r0 : SRt g1 := gen_right _
  have ea : chS g1 b3 = aL := (chS_fine f3).trans a_is
  have eb : chS g1 b5 = bL := chS_fine f5
  have ef : chS g1 b100 = fL := (chS_fine f100).trans f_is
  have ka : aL.Ok := ea ▸ chS_ok g1_ok r0 b3_ok
  have kb : bL.Ok := eb ▸ chS_ok g1_ok r0 b5_ok
  have kf : fL.Ok := ef ▸ chS_ok g1_ok r0 b100_ok
  have ra : SRt aL := ea ▸ chS_right r0 (chE_zero.2 f3)
  have rb : SRt bL := eb ▸ chS_right r0 (chE_zero.2 f5)
  have rf : SRt fL := ef ▸ chS_right r0 (chE_zero.2 f100)
  have b_slot : bL.slot = 5 := rfl
  have b_lock : bL.now.lock = zh := rfl
  have b_len : bL.len = 2 := rfl
  have b_draw : bL.draw = hn 1 := rfl
  have nga : nearP g1 aL := .inl ⟨rfl, rfl⟩
  have nab : nearP aL bL := .inl ⟨by rw [b_slot]; rfl, b_lock.symm⟩
  have naf : ¬ nearP aL fL := near_at2 (by decide : 3 / 24 + 2 ≤ 100 / 24)
  have wga : winP g1 aL := (win_near nga).2 (kval_len (keyN_ok g1_ok) (by decide : 1 < 2))
  have hv : val zh < val (hn 1) := (hash_at (x := zh) (y := hn 1) (i := 0) (a := 0) (b := 1) zh_ok (hn_ok (by decide)) rfl rfl rfl).1 (by decide)
  have wab : winP aL bL := (win_near nab).2 (kval_draw (keyN_ok ka) (show aL.len = bL.len by rw [b_len]; rfl) (show val aL.draw < val bL.draw by rw [b_draw]; exact hv))
  have hd : digS aL ≠ digS fL := fun e => by
    have h : (digS aL).getD 0 0 = (digS fL).getD 0 0 := congrArg (fun l : List Nat => l.getD 0 0) e
    rw [a_dig, f_dig] at h
    omega
  have wx : (winP aL fL ∧ ¬ winP fL aL) ∨ (¬ winP aL fL ∧ winP fL aL) := by
    rcases win_one ka kf hd with h | h
    · exact .inl ⟨h, win_once h⟩
    · exact .inr ⟨win_once h, h⟩
  have fo : foldF g1 [aL, bL, aL] = (bL, 2) := fold_three wga wab (win_once wab)
  exact ⟨aL, bL, fL, ⟨chE_zero.2 f3, ea⟩, ⟨chE_zero.2 f5, eb⟩, ⟨chE_zero.2 f100, ef⟩, g1_ok, ka, kb, kf, r0, ra, rb, rf, nab, naf, wga, win_once wga, wab, win_once wab, a_den, f_den, wx, fo⟩
end Go.Proofs.YtffpifljeeikfaaGreatDoor.Cz
