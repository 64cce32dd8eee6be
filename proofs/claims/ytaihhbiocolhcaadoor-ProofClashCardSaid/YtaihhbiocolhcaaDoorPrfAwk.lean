/-
  The tree of layer 16's awake, with one account at place 9: its path at 9 leads from that account's digest to its root, and from the place 8 elsewhere: digests that the kernel reckons. No program.
-/
import Derived.Test.YtaihhbiocolhcaaDoorTreAll
import Derived.Test.YtaihhbiocolhcaaDoorPrfSpec
import Derived.Test.YtaihhbiocolhcaaDoorPrfClash
namespace Go.Proofs.YtaihhbiocolhcaaDoor.Pf
open Go.Proofs.YtaihhbiocolhcaaDoor.Bt Go.Proofs.YtaihhbiocolhcaaDoor.Ac Go.Proofs.YtaihhbiocolhcaaDoor.Tr
open Go.Proofs.YtaihhbiocolhcaaDoor.Tg (tagD tagD_len)
open Go.Proofs.YtaihhbiocolhcaaDoor.Ep (H32)
set_option linter.unusedVariables false
set_option linter.unusedSimpArgs false

def aP : Acct := ⟨⟨#[97]⟩, 5, 0⟩
theorem aP_ok : aP.Ok := ⟨by decide, by decide⟩
theorem aP_rt : NRt aP.nm := by decide
def nineT : Tree := setT bare 9 (some aP)
theorem set_nine : setR bare (9 : Int) aP = nineT := by
  unfold setR
  rw [if_pos ⟨by omega, aP_rt⟩]
  rfl
theorem good_nine : Tr.Good nineT := set_nine ▸ good_set good_bare 9 aP_ok
theorem nine_bes (h : Nat) : besD nineT 9 h = bareD h := by
  rw [show besD nineT 9 h = besD bare 9 h from bes_alone (fun j hj => set_other hj) h]
  exact bare_node h _
def nP : List (List Nat) := [bareD 0, bareD 1, bareD 2, bareD 3]
theorem nine_path : pathD nineT 9 = nP := by
  unfold pathD nP
  rw [nine_bes, nine_bes, nine_bes, nine_bes]
theorem nP_ok : P4 nP := nine_path ▸ ⟨path_ok nineT 9, rfl⟩
theorem nine_root : leadK 9 nP (digA aP) 4 = rootD nineT := by
  rw [← nine_path]
  exact lead_root nineT (by decide)
def lP : List Nat := [178, 51, 235, 14, 39, 39, 113, 115, 139, 23, 254, 227, 163, 82, 86, 64, 85, 21, 106, 95, 38, 40, 105, 132, 233, 144, 192, 73, 18, 17, 119, 54]
def lN1 : List Nat := [217, 0, 48, 97, 157, 63, 2, 220, 206, 23, 106, 131, 213, 195, 18, 32, 204, 65, 209, 9, 90, 74, 193, 45, 249, 45, 211, 21, 154, 146, 166, 52]
def lN2 : List Nat := [101, 146, 139, 123, 66, 182, 36, 167, 249, 44, 152, 41, 219, 37, 52, 133, 152, 136, 183, 238, 56, 8, 58, 122, 50, 27, 110, 69, 27, 184, 199, 26]
def lN3 : List Nat := [132, 223, 6, 40, 199, 105, 111, 186, 135, 207, 12, 44, 224, 129, 111, 44, 203, 75, 194, 218, 2, 178, 118, 214, 130, 93, 92, 21, 210, 37, 137, 55]
def lN4 : List Nat := [188, 136, 143, 103, 69, 119, 215, 84, 210, 215, 37, 178, 161, 167, 182, 190, 194, 111, 217, 235, 24, 151, 242, 184, 155, 193, 52, 33, 233, 150, 104, 215]
def lV1 : List Nat := [84, 155, 245, 188, 118, 141, 16, 90, 187, 114, 170, 157, 221, 166, 156, 121, 117, 209, 171, 50, 66, 106, 150, 198, 52, 249, 10, 200, 104, 101, 245, 243]
def lV2 : List Nat := [186, 101, 40, 237, 248, 24, 21, 254, 85, 99, 8, 93, 93, 32, 183, 43, 16, 238, 208, 60, 131, 58, 227, 71, 112, 4, 109, 210, 203, 209, 24, 221]
def lV3 : List Nat := [68, 35, 95, 9, 220, 119, 188, 197, 141, 205, 191, 114, 94, 190, 242, 95, 184, 132, 108, 49, 197, 189, 187, 201, 213, 110, 163, 171, 253, 149, 29, 205]
def lV4 : List Nat := [57, 27, 11, 39, 138, 243, 242, 222, 85, 184, 126, 125, 0, 189, 166, 208, 198, 188, 108, 168, 186, 252, 78, 52, 173, 34, 13, 126, 82, 19, 175, 163]
theorem p_is : digA aP = lP := by kernel_rfl
theorem n1_is : joinD 1 lE lP = lN1 := by kernel_rfl
theorem n1_ld : leadK 9 nP (digA aP) 1 = lN1 := by
  rw [lead_succ, if_neg (by decide), show nP.getD 0 [] = lE from bd0, show leadK 9 nP (digA aP) 0 = lP from p_is, n1_is]
theorem n2_is : joinD 2 lN1 lB1 = lN2 := by kernel_rfl
theorem n2_ld : leadK 9 nP (digA aP) 2 = lN2 := by
  rw [lead_succ, if_pos (by decide), show nP.getD 1 [] = lB1 from bd1, n1_ld, n2_is]
theorem n3_is : joinD 3 lN2 lB2 = lN3 := by kernel_rfl
theorem n3_ld : leadK 9 nP (digA aP) 3 = lN3 := by
  rw [lead_succ, if_pos (by decide), show nP.getD 2 [] = lB2 from bd2, n2_ld, n3_is]
theorem n4_is : joinD 4 lB3 lN3 = lN4 := by kernel_rfl
theorem n4_ld : leadK 9 nP (digA aP) 4 = lN4 := by
  rw [lead_succ, if_neg (by decide), show nP.getD 3 [] = lB3 from bd3, n3_ld, n4_is]
theorem v1_is : joinD 1 lP lE = lV1 := by kernel_rfl
theorem v1_ld : leadK 8 nP (digA aP) 1 = lV1 := by
  rw [lead_succ, if_pos (by decide), show nP.getD 0 [] = lE from bd0, show leadK 8 nP (digA aP) 0 = lP from p_is, v1_is]
theorem v2_is : joinD 2 lV1 lB1 = lV2 := by kernel_rfl
theorem v2_ld : leadK 8 nP (digA aP) 2 = lV2 := by
  rw [lead_succ, if_pos (by decide), show nP.getD 1 [] = lB1 from bd1, v1_ld, v2_is]
theorem v3_is : joinD 3 lV2 lB2 = lV3 := by kernel_rfl
theorem v3_ld : leadK 8 nP (digA aP) 3 = lV3 := by
  rw [lead_succ, if_pos (by decide), show nP.getD 2 [] = lB2 from bd2, v2_ld, v3_is]
theorem v4_is : joinD 4 lB3 lV3 = lV4 := by kernel_rfl
theorem v4_ld : leadK 8 nP (digA aP) 4 = lV4 := by
  rw [lead_succ, if_neg (by decide), show nP.getD 3 [] = lB3 from bd3, v3_ld, v4_is]
theorem eight_ne : ¬ leadK 8 nP (digA aP) 4 = rootD nineT := by
  rw [← nine_root, n4_ld, v4_ld]
  intro h
  have := congrArg (fun l : List Nat => l.getD 0 0) h
  revert this
  decide
/-! ### What Check, Lead and Clash answer there -/
theorem lead_nine : leadI (9 : Int) nP (digA aP) = rootD nineT := by
  have := leadI_in (q := 9) (by decide) nP (digA aP)
  rw [nine_root] at this
  exact this
theorem chk_nine : chkE (rootD nineT) (9 : Int) aP nP = 0 := by
  unfold chkE
  rw [if_pos (endE_in aP_rt ⟨by omega, by omega⟩), if_pos (by unfold endD; rw [if_pos aP_rt, lead_nine])]
theorem chk_eight : chkE (rootD nineT) (8 : Int) aP nP = 13 := by
  unfold chkE
  rw [if_pos (endE_in aP_rt ⟨by omega, by omega⟩), if_neg (fun h => eight_ne (by
    unfold endD at h
    rw [if_pos aP_rt, show leadI (8 : Int) nP (digA aP) = leadK 8 nP (digA aP) 4 from leadI_in (q := 8) (by decide) nP (digA aP)] at h
    exact h))]
theorem chk_far : chkE (rootD nineT) (16 : Int) aP nP = 1 := by
  unfold chkE
  rw [if_neg (fun h => by have := (endE_zero h).2; omega)]
theorem meet_self (p : Int) (L M : List (List Nat)) : meetB p aP L aP M = false := by
  cases h : meetB p aP L aP M with
  | false => rfl
  | true => exact absurd rfl (meet_true h).2.2.2.2
end Go.Proofs.YtaihhbiocolhcaaDoor.Pf
