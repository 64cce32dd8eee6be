/-
  MessageOdd, of package message (Words): of any message that may be (names of up to 1000, as the statement has it; beyond that the law looks no further), with the version, the state's ledger, the place, the account or the path's first digest of another one, where its Kind doesn't tell it, none may be but with zero; the call returns true, and its arguments read afterwards as before. No condition.
-/
import Derived.Test.YtghogoijjaiccaaRows
import Derived.Test.YtghogoijjaiccaaMsgLaws3
import Derived.Test.YtghogoijjaiccaaEpoReads
import Derived.Test.YtghogoijjaiccaaAccReads
import Derived.Test.YtghogoijjaiccaaMsgMem
import Derived.WalkKit
import Derived.ProofKit
import Derived.OpenShut
namespace Go.Proofs.Ytghogoijjaiccaa.messageOdd
open Go.ChangeShapes Go.WideShapes Go.ChangeAt Go.WideMaps Go.WideElems Go.ChangeMaps Go.RowKit Go.Proofs.Ytghogoijjaiccaa.Bt Go.Proofs.Ytghogoijjaiccaa.Ac Go.Proofs.Ytghogoijjaiccaa.Tr Go.Proofs.Ytghogoijjaiccaa.Pf Go.Proofs.Ytghogoijjaiccaa.Ms
set_option linter.unusedVariables false
set_option linter.unusedSimpArgs false

theorem own : ownKnob Try.prog.godebug = none := by kernel_rfl
theorem laidOut : laidOutB Try.prog = true := by kernel_rfl
set_option maxRecDepth 100000 in
theorem lifted (os : Os) (started : os.Started) (H : Type) (enc : TypeId × Value → H) :
    ReturnsInHanded {} Try.checked os 5 .any (Rows.messageOddSpec.pre6 enc Try.prog Try.f5 Rows.messageOddRow.domain false) (Rows.messageOddSpec.post enc Try.prog Try.f5 false true false false) := by
  refine returnsInHanded_of_change (C := Try.checked) own started (by kernel_rfl) Try.func5
    (ChangeSpec.witness6 (enc := enc) (C := Try.checked) false ⟨#[], #[.agg (Ms.mcs Ms.zm).toArray, .int .u32 0, .agg (u8s Ep.zh).toArray, .int .i64 0, .agg (Ac.acs Ac.za).toArray, .agg (u8s Ep.zh).toArray], []⟩ 8 (by kernel_rfl) (by kernel_rfl) (by kernel_rfl) (by kernel_rfl)) ?_
  intro W base args ds gs before hval0 hW hcnd _
  have hval : ∀ (j : Nat) t v, Try.f5.params[j]? = some t → args[j]? = some v → Value.okWide Try.prog W .any base t v := hval0
  have hW' := hW
  obtain ⟨p, q, hA0, hV, rfl, hfz, hnd⟩ := hW
  have hA : DataW.TrodAll enc Try.prog W 0 (fun _ => true) true Try.f5.params.toList args.toList ds p := hA0
  rw [Try.params5] at hA hval
  obtain ⟨v0, v1, v2, v3, v4, v5, e0, e1, e2, e3, e4, e5, p0, p1, p2, p3, p4, p5, rfl, rfl, rfl, h0, h1, h2, h3, h4, h5⟩ := trodAll_six hA
  obtain ⟨rfl, rfl⟩ := trodVars_none hV
  clear hA0 hval0
  have h0k := h0
  obtain ⟨fuel0, h0t⟩ := h0
  obtain ⟨m0, hcs0, km0⟩ := Ms.msg_of h0t
  obtain ⟨xs0, rfl, hsz0⟩ := okWide_struct Ms.msg_und (hval 0 42 v0 rfl rfl)
  obtain rfl : xs0 = (Ms.mcs m0).toArray := by
    have e : xs0.toList = Ms.mcs m0 := hcs0
    rw [← e]
  obtain ⟨r1, rfl, rfl, rfl, w1⟩ := open_int Try.underlying22 (hval 1 22 v1 rfl rfl) h1
  have kr1 : 0 ≤ r1 ∧ r1 < 4294967296 := by have h := w1; simp [Lit.wf, IntKind.min, IntKind.max, IntKind.signed, IntKind.bits] at h; omega
  obtain ⟨n1, rfl⟩ : ∃ n : Nat, r1 = (n : Int) := ⟨r1.toNat, by omega⟩
  have hn1 : n1 < 4294967296 := by omega
  have h2k := h2
  obtain ⟨fuel2, h2t⟩ := h2
  obtain ⟨x2, hcs2, kx2⟩ := Ep.h32_of h2t
  obtain ⟨xs2, rfl⟩ := Ep.okWide_arr Ep.hash_und (hval 2 24 v2 rfl rfl)
  obtain rfl : xs2 = (u8s x2).toArray := by
    have e : xs2.toList = u8s x2 := hcs2
    rw [← e]
  obtain ⟨r3, rfl, rfl, rfl, w3⟩ := open_int Try.underlying3 (hval 3 3 v3 rfl rfl) h3
  have kr3 : -9223372036854775808 ≤ r3 ∧ r3 ≤ 9223372036854775807 := by have h := w3; simp [Lit.wf, IntKind.min, IntKind.max, IntKind.signed, IntKind.bits] at h; omega
  have h4k := h4
  obtain ⟨fuel4, h4t⟩ := h4
  obtain ⟨y4, hcs4, ky4⟩ := Ac.acc_of h4t
  obtain ⟨xs4, rfl, hsz4⟩ := okWide_struct Ac.acc_und (hval 4 38 v4 rfl rfl)
  obtain rfl : xs4 = (Ac.acs y4).toArray := by
    have e : xs4.toList = Ac.acs y4 := hcs4
    rw [← e]
  have h5k := h5
  obtain ⟨fuel5, h5t⟩ := h5
  obtain ⟨x5, hcs5, kx5⟩ := Ep.h32_of h5t
  obtain ⟨xs5, rfl⟩ := Ep.okWide_arr Ep.hash_und (hval 5 24 v5 rfl rfl)
  obtain rfl : xs5 = (u8s x5).toArray := by
    have e : xs5.toList = u8s x5 := hcs5
    rw [← e]
  simp only [List.append_nil, List.nil_append] at hW'
  refine (messageOdd_any m0 n1 x2 r3 y4 x5 W km0 hn1 kx2 kr3.1 kr3.2 ky4 kx5).mono fun e W' ⟨he, hB⟩ => ?_
  subst he
  exact ⟨_, rfl, _, _, _, [], p0 ++ ([] ++ (p2 ++ ([] ++ (p4 ++ p5)))), [], hW', trodAll_mk1 (shut_bool Try.underlying4 _), trodAll_mk6 (Below.trod laidOut (by kernel_rfl) (of_decide_eq_true (by kernel_rfl)) h0k hB (fun x hx => hW'.lt x (by simp [hx]))) (shut_int Try.underlying22 w1) (Below.trod laidOut (by kernel_rfl) (of_decide_eq_true (by kernel_rfl)) h2k hB (fun x hx => hW'.lt x (by simp [hx]))) (shut_int Try.underlying3 w3) (Below.trod laidOut (by kernel_rfl) (of_decide_eq_true (by kernel_rfl)) h4k hB (fun x hx => hW'.lt x (by simp [hx]))) (Below.trod laidOut (by kernel_rfl) (of_decide_eq_true (by kernel_rfl)) h5k hB (fun x hx => hW'.lt x (by simp [hx]))), rfl, hB.frame _, fun h => by cases h⟩
theorem over : Rows.messageOddRow.holds Try.pinned (OpenSpec.ofChange Rows.messageOddSpec) :=
  OpenClaim.holds_of_wide 5 Try.f5 rfl rfl rfl rfl rfl rfl rfl ⟨rfl, rfl, rfl, rfl, rfl⟩ rfl rfl rfl rfl rfl (by kernel_rfl) Try.func5 (by kernel_rfl)
    (of_decide_eq_true (by kernel_rfl)) (by unfold Func.isWrapper; first | (rw [if_pos (by decide +kernel)]; kernel_rfl) | (rw [if_neg (by decide +kernel)]; exact ⟨rfl, rfl⟩))
    (fun os started H enc _ => lifted os started H enc)
/-- ████ THE STATEMENT ████ -/
theorem proved : Rows.MessageOddSaid :=
  over
#print axioms proved
end Go.Proofs.Ytghogoijjaiccaa.messageOdd
