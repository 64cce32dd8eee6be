/-
  The walks of layer 2's statements ShaTells and ShaEnds over this seat's translation, out of the contracts: each returns true, and changes nothing that was there.
-/
import Derived.Test.YtpkciokcegjcfaaDoorShaAwake
import Derived.Test.YtpkciokcegjcfaaDoorShaRef
namespace Go.Proofs.YtpkciokcegjcfaaDoor.Sha
open Go.ChangeShapes Go.WideShapes Go.ChangeAt Go.RowKit Go.Proofs.YtpkciokcegjcfaaDoor.Num Go.Proofs.YtpkciokcegjcfaaDoor.Mem
set_option linter.unusedVariables false

set_option maxRecDepth 100000 in
theorem shaTells_big (p : Option Addr) (len cap : Nat) (w : World) (hlen : 2000 < len) (hmax : len ≤ 9223372036854775807) (hk : w.rangeAt 1 0 (u32s ks)) :
    Calls Tryd.prog 3 #[.slice p len cap] w fun e w' => e = .returned (.bool true) ∧ Below w.heap.size w w' := by
  have HK := Lib.hid hk; clear hk
  have hd : decide ((2000 : Int) < (len : Int)) = true := decide_eq_true (by omega)
  go_enter Tryd.func3, Tryd.ntmps3
  go_wp2_with fail
  refine (awake_any w HK.out).mono ?_
  rintro e w1 ⟨rfl, h1⟩
  go_wp2_with fail
  go_ret
  exact ⟨rfl, h1⟩
set_option maxRecDepth 100000 in
theorem shaTells_small (bs : List Nat) (p : Option Addr) (cap : Nat) (w : World) (hb : AllLt 256 bs) (hlen : bs.length ≤ 2000) (hcap : bs.length ≤ cap) (hnil : p = none → cap = 0) (hp : bs ≠ [] → ∃ g o, p = some ⟨g, o, none⟩ ∧ w.rangeAt g o (u8s bs))
    (hk : w.rangeAt 1 0 (u32s ks)) (hk2 : w.rangeAt 0 0 (u32s ks)) :
    Calls Tryd.prog 3 #[.slice p bs.length cap] w fun e w' => e = .returned (.bool true) ∧ Below w.heap.size w w' := by
  have hl1 : 1 < w.heap.size := range_lt hk (by simp [u32s, ks])
  have hl2 : 0 < w.heap.size := range_lt hk2 (by simp [u32s, ks])
  have HK := Lib.hid hk; have HK2 := Lib.hid hk2; have HP := Lib.hid hp; have HN := Lib.hid hnil; clear hk hk2 hp hnil
  have hd : decide ((2000 : Int) < (bs.length : Int)) = false := decide_eq_false (by omega)
  have hE : ∀ w : World, (binOp .eql 25 (.agg (u8s (digest bs)).toArray) (.agg (u8s (digest bs)).toArray)).run Tryd.prog w = .ok (.bool true) w := run_eql_hash _ (digest_len _)
  generalize hdg : digest bs = dg at hE
  have HDG := Lib.hid hdg; clear hdg
  have hpw : ∀ w', Below w.heap.size w w' → bs ≠ [] → ∃ g o, p = some ⟨g, o, none⟩ ∧ w'.rangeAt g o (u8s bs) := fun w' hB hne => by
    obtain ⟨g, o, e, hr⟩ := HP.out hne
    exact ⟨g, o, e, range_block hr (hB.block g (range_lt hr (by intro h; apply hne; simpa [u8s] using h)))⟩
  have HPW := Lib.hid hpw; clear hpw
  go_enter Tryd.func3, Tryd.ntmps3
  go_wp2_with fail
  refine (awake_any w HK.out).mono ?_
  rintro e w1 ⟨rfl, h1⟩
  go_wp2_with fail
  refine (of_any bs cap p w1 hb (by omega) hcap (HPW.out w1 h1) (range_block HK.out (h1.block _ hl1))).mono ?_
  rintro e w2 ⟨rfl, h2⟩
  have h12 : Below w.heap.size w w2 := below_step h1 h1.size h2
  rw [HDG.out]
  go_wp2_with fail
  refine (refOf_any bs p cap w2 hb (by omega) hcap HN.out (HPW.out w2 h12) (range_block HK2.out (h12.block _ hl2))).mono ?_
  rintro e w3 ⟨rfl, h3⟩
  rw [HDG.out]
  go_wp2_with fail
  go_ret
  exact ⟨rfl, below_step h12 h12.size h3⟩
end Go.Proofs.YtpkciokcegjcfaaDoor.Sha
