/-
  The trees of layer 15's awake: without accounts, and with one at place 5; their roots, which aren't the same: digests that the kernel reckons. No program.
-/
import Derived.Test.YtpebadhknpohkaaDoorTreSpec
namespace Go.Proofs.YtpebadhknpohkaaDoor.Tr
open Go.Proofs.YtpebadhknpohkaaDoor.Bt Go.Proofs.YtpebadhknpohkaaDoor.Ac
open Go.Proofs.YtpebadhknpohkaaDoor.Tg (tagD tagD_len)
open Go.Proofs.YtpebadhknpohkaaDoor.Ep (H32)
set_option linter.unusedVariables false
set_option linter.unusedSimpArgs false

/-- The digest of a node without accounts. -/
def bareD : Nat → List Nat
  | 0 => digE
  | h + 1 => joinD (h + 1) (bareD h) (bareD h)
theorem bareD_succ (h : Nat) : bareD (h + 1) = joinD (h + 1) (bareD h) (bareD h) := rfl
theorem bareD_ok : ∀ h, H32 (bareD h)
  | 0 => digE_ok
  | h + 1 => join_ok _ _ _
theorem bare_node : ∀ h i, nodeD bare h i = bareD h
  | 0, i => rfl
  | h + 1, i => by rw [node_succ, bare_node h, bare_node h]; rfl
theorem bare_root : rootD bare = bareD 4 := bare_node 4 0
/-- The account a. -/
def aA : Acct := ⟨⟨#[97]⟩, 0, 0⟩
theorem aA_ok : aA.Ok := ⟨by decide, by decide⟩
theorem aA_rt : NRt aA.nm := by decide
def oneT : Tree := setT bare 5 (some aA)
theorem one_bes (h : Nat) : besD oneT 5 h = bareD h := by
  rw [show besD oneT 5 h = besD bare 5 h from bes_alone (fun j hj => set_other hj) h]
  exact bare_node h _
theorem one_leaf : nodeD oneT 0 (5 / 2 ^ 0) = digA aA := rfl
theorem one_beside : besD oneT 4 0 = digA aA := rfl
def lE : List Nat := [29, 80, 10, 234, 55, 60, 6, 13, 11, 38, 141, 169, 210, 137, 43, 134, 89, 81, 9, 92, 70, 8, 128, 113, 126, 130, 89, 219, 104, 210, 148, 223]
def lA : List Nat := [159, 162, 29, 136, 115, 128, 167, 63, 243, 150, 150, 216, 61, 14, 105, 65, 129, 73, 110, 80, 92, 8, 122, 91, 182, 201, 183, 44, 108, 107, 156, 181]
def lB1 : List Nat := [161, 113, 220, 125, 84, 74, 39, 99, 154, 113, 243, 65, 220, 165, 126, 47, 10, 224, 253, 170, 96, 221, 200, 194, 175, 119, 119, 122, 48, 109, 59, 134]
def lB2 : List Nat := [93, 103, 193, 116, 37, 149, 220, 15, 13, 30, 243, 223, 84, 237, 186, 82, 94, 15, 212, 253, 249, 146, 81, 248, 100, 136, 1, 85, 47, 108, 187, 109]
def lB3 : List Nat := [69, 213, 34, 234, 58, 147, 51, 85, 26, 7, 192, 118, 60, 32, 110, 154, 82, 172, 211, 188, 39, 198, 2, 108, 221, 141, 82, 4, 196, 125, 46, 9]
def lB4 : List Nat := [191, 184, 248, 12, 57, 249, 13, 77, 167, 128, 182, 27, 182, 75, 205, 30, 157, 206, 4, 227, 199, 235, 160, 173, 250, 240, 248, 150, 211, 50, 29, 180]
def lM1 : List Nat := [196, 19, 123, 187, 250, 166, 123, 1, 5, 28, 143, 75, 195, 137, 219, 198, 130, 127, 164, 178, 154, 80, 197, 12, 20, 6, 104, 181, 249, 25, 8, 196]
def lM2 : List Nat := [153, 31, 230, 252, 95, 47, 12, 194, 223, 93, 169, 5, 88, 70, 69, 103, 128, 0, 12, 157, 31, 111, 117, 115, 248, 101, 157, 8, 48, 24, 31, 248]
def lM3 : List Nat := [42, 205, 56, 47, 241, 146, 211, 151, 184, 171, 242, 62, 193, 81, 169, 147, 163, 228, 181, 215, 56, 64, 64, 18, 41, 131, 138, 39, 57, 73, 228, 187]
def lM4 : List Nat := [60, 237, 137, 174, 118, 116, 16, 41, 70, 215, 24, 206, 131, 110, 34, 186, 34, 202, 193, 225, 0, 55, 192, 247, 220, 70, 215, 49, 162, 153, 88, 171]
theorem e_is : digE = lE := by kernel_rfl
theorem a_is : digA aA = lA := by kernel_rfl
theorem b1_is : joinD 1 lE lE = lB1 := by kernel_rfl
theorem b2_is : joinD 2 lB1 lB1 = lB2 := by kernel_rfl
theorem b3_is : joinD 3 lB2 lB2 = lB3 := by kernel_rfl
theorem b4_is : joinD 4 lB3 lB3 = lB4 := by kernel_rfl
theorem m1_is : joinD 1 lE lA = lM1 := by kernel_rfl
theorem m2_is : joinD 2 lM1 lB1 = lM2 := by kernel_rfl
theorem m3_is : joinD 3 lB2 lM2 = lM3 := by kernel_rfl
theorem m4_is : joinD 4 lM3 lB3 = lM4 := by kernel_rfl
theorem bd0 : bareD 0 = lE := e_is
theorem bd1 : bareD 1 = lB1 := by rw [bareD_succ, bd0, b1_is]
theorem bd2 : bareD 2 = lB2 := by rw [bareD_succ, bd1, b2_is]
theorem bd3 : bareD 3 = lB3 := by rw [bareD_succ, bd2, b3_is]
theorem bd4 : bareD 4 = lB4 := by rw [bareD_succ, bd3, b4_is]
theorem on1 : nodeD oneT 1 2 = lM1 := by
  have h := node_step oneT 5 0
  rw [if_neg (by decide), one_bes, one_leaf, bd0, a_is, m1_is] at h
  exact h
theorem on2 : nodeD oneT 2 1 = lM2 := by
  have h := node_step oneT 5 1
  rw [if_pos (by decide), one_bes, show nodeD oneT 1 (5 / 2 ^ 1) = lM1 from on1, bd1, m2_is] at h
  exact h
theorem on3 : nodeD oneT 3 0 = lM3 := by
  have h := node_step oneT 5 2
  rw [if_neg (by decide), one_bes, show nodeD oneT 2 (5 / 2 ^ 2) = lM2 from on2, bd2, m3_is] at h
  exact h
theorem one_root : rootD oneT = lM4 := by
  have h := node_step oneT 5 3
  rw [if_pos (by decide), one_bes, show nodeD oneT 3 (5 / 2 ^ 3) = lM3 from on3, bd3, m4_is] at h
  exact h
/-- The two roots aren't the same. -/
theorem roots_ne : rootD oneT ≠ rootD bare := by
  rw [one_root, bare_root, bd4]
  intro h
  have := congrArg (fun l : List Nat => l.getD 0 0) h
  revert this
  decide
theorem one_drop : setT oneT 5 none = bare := by
  funext i
  unfold setT oneT setT
  split
  · rfl
  · rfl
end Go.Proofs.YtpebadhknpohkaaDoor.Tr
