/-
  No cell of these rows narrows 'for every input' (looked for: loops, veiled, ifaces, maps, wideKeys, modest, calm, conditions, laid).
  DERIVED. THE GIVEN ROWS OF THIS SEAT. 3 by the template 'for every input the law returns true; each argument reads behind the call as it read before'; 0 by the template 'total and deterministic' (their statements: YtbpghogdjpobnaaTotals.lean).
  GIVEN WITH THE SEED: the statements are not yours to turn. If you find one false, say at which input.
  Laid BY PROGRAM, IN A SANDBOX (cutbox-rows.mjs): the forced cells as the released guide's own fill.sh prints them over the translation d5f06361a760f40c… (all of the seat's roots in one cut). By AI agents, Wed Nov 11 2026. No macro, syntax, notation, axiom, sorry.
-/
import Derived.Test.YtbpghogdjpobnaaChecked
import GoSem.Claim
import GoSem.ClaimJoined
import GoSem.ClaimMapViews
import Derived.JoinedTies
import Derived.KernelRfl
namespace Go.Proofs.Ytbpghogdjpobnaa
/- THE CELL 'sum', in the pinned program and in every row, IS THE sha256 OF THE DUMP (.gsa) THAT YtbpghogdjpobnaaProg.lean LOADS. Nothing in Lean hashes anything: it is a label: what it is worth is what the hold of that sum in a sandbox is worth. -/
noncomputable def Try.pinned : Pinned := { name := "ytbpghogdjpobnaa", sum := "d5f06361a760f40ca517bfaf8d7d275014f8aae0a321acc69bf15dbb0c0be49e", checked := Try.checked }
namespace Rows
def none {H : Type} : Left H := { results := [], args := [] }

/-- 'almagestlaw18.VerdictDoes': WHATEVER THE INPUT: true; the input reads as it did. -/
def verdictDoesSpec : ChangeSpec := { name := "verdictDoes", fn := fun _ => fun
  | [d1, d2] => { results := [.lit (.bool true)], args := [d1, d2] }
  | _ => none }
def verdictDoesRow : OpenClaim := { program := "ytbpghogdjpobnaa", sum := "d5f06361a760f40ca517bfaf8d7d275014f8aae0a321acc69bf15dbb0c0be49e", func := "almagest/almagestlaw18.VerdictDoes", spec := "verdictDoes", plainKeys := false, apart := false }
def VerdictDoesSaid : Prop := verdictDoesRow.holds Try.pinned (OpenSpec.ofChange verdictDoesSpec)

/-- ITS FALSE NEIGHBOUR: 'it returns false'. Refute it at one input. -/
def verdictDoesWrong : ChangeSpec := { name := "verdictDoes", fn := fun _ => fun
  | [d1, d2] => { results := [.lit (.bool false)], args := [d1, d2] }
  | _ => none }
def VerdictDoesWrongFalsely : Prop := verdictDoesRow.holds Try.pinned (OpenSpec.ofChange verdictDoesWrong)

/-- 'almagestlaw18.VerdictRoom': WHATEVER THE INPUT: true; the input reads as it did. -/
def verdictRoomSpec : ChangeSpec := { name := "verdictRoom", fn := fun _ => fun
  | [d1, d2, d3] => { results := [.lit (.bool true)], args := [d1, d2, d3] }
  | _ => none }
def verdictRoomRow : OpenClaim := { program := "ytbpghogdjpobnaa", sum := "d5f06361a760f40ca517bfaf8d7d275014f8aae0a321acc69bf15dbb0c0be49e", func := "almagest/almagestlaw18.VerdictRoom", spec := "verdictRoom", plainKeys := false, apart := false }
def VerdictRoomSaid : Prop := verdictRoomRow.holds Try.pinned (OpenSpec.ofChange verdictRoomSpec)

/-- ITS FALSE NEIGHBOUR: 'it returns false'. Refute it at one input. -/
def verdictRoomWrong : ChangeSpec := { name := "verdictRoom", fn := fun _ => fun
  | [d1, d2, d3] => { results := [.lit (.bool false)], args := [d1, d2, d3] }
  | _ => none }
def VerdictRoomWrongFalsely : Prop := verdictRoomRow.holds Try.pinned (OpenSpec.ofChange verdictRoomWrong)

/-- 'almagestlaw18.VerdictLast': WHATEVER THE INPUT: true; the input reads as it did. -/
def verdictLastSpec : ChangeSpec := { name := "verdictLast", fn := fun _ => fun
  | [d1, d2] => { results := [.lit (.bool true)], args := [d1, d2] }
  | _ => none }
def verdictLastRow : OpenClaim := { program := "ytbpghogdjpobnaa", sum := "d5f06361a760f40ca517bfaf8d7d275014f8aae0a321acc69bf15dbb0c0be49e", func := "almagest/almagestlaw18.VerdictLast", spec := "verdictLast", plainKeys := false, apart := false }
def VerdictLastSaid : Prop := verdictLastRow.holds Try.pinned (OpenSpec.ofChange verdictLastSpec)

/-- ITS FALSE NEIGHBOUR: 'it returns false'. Refute it at one input. -/
def verdictLastWrong : ChangeSpec := { name := "verdictLast", fn := fun _ => fun
  | [d1, d2] => { results := [.lit (.bool false)], args := [d1, d2] }
  | _ => none }
def VerdictLastWrongFalsely : Prop := verdictLastRow.holds Try.pinned (OpenSpec.ofChange verdictLastWrong)

/- THE SECOND FORM. 'bulk': how many values and letters a reading holds, each counted each time it is reached (what is shared counts as often as it is met; a slice's spare places count too). A statement '..UptoSaid' is the law's where the arguments, and the package variables that the reading takes, are together of bulk at most 1048576: NARROWER than '..Said'. Prove '..Said' where nothing that the law and all that it calls make is longer than what came in: it says more and counts as full. Else prove '..UptoSaid'. A law counts once. -/
mutual
def uptoBulk {H : Type} : DataW H → Nat
  | .lit (.string bytes) => bytes.length + 1
  | .lit _ => 1
  | .nil => 1
  | .ptr d => uptoBulk d + 1
  | .slice elems spare => uptoBulkAll elems + uptoBulkAll spare + 1
  | .agg parts => uptoBulkAll parts + 1
  | .iface _ d => uptoBulk d + 1
  | .map entries => uptoBulkEntries entries + 1
  | .held _ => 1
def uptoBulkAll {H : Type} : List (DataW H) → Nat
  | [] => 0
  | d :: r => uptoBulk d + uptoBulkAll r
def uptoBulkEntries {H : Type} : List (Lit × DataW H) → Nat
  | [] => 0
  | x :: r => uptoBulkEntry x + uptoBulkEntries r
def uptoBulkEntry {H : Type} : Lit × DataW H → Nat
  | (.string bytes, d) => bytes.length + uptoBulk d + 1
  | (_, d) => uptoBulk d + 1
 end
def uptoSmall : (H : Type) → List (DataW H) → Bool := fun _ ds => decide (uptoBulkAll ds ≤ 1048576)
def OpenSpec.upto (s : _root_.Go.ChangeSpec) : _root_.Go.OpenSpec := { _root_.Go.OpenSpec.ofChange s with cond := some uptoSmall }

/-- 'almagestlaw18.VerdictDoes', WHERE WHAT IT READS IS OF BULK AT MOST 1048576: true; the input reads as it did. -/
def verdictDoesUptoRow : OpenClaim := { program := "ytbpghogdjpobnaa", sum := "d5f06361a760f40ca517bfaf8d7d275014f8aae0a321acc69bf15dbb0c0be49e", func := "almagest/almagestlaw18.VerdictDoes", spec := "verdictDoes", plainKeys := false, apart := false, narrowed := true }
def VerdictDoesUptoSaid : Prop := verdictDoesUptoRow.holds Try.pinned (OpenSpec.upto verdictDoesSpec)

/-- 'almagestlaw18.VerdictRoom', WHERE WHAT IT READS IS OF BULK AT MOST 1048576: true; the input reads as it did. -/
def verdictRoomUptoRow : OpenClaim := { program := "ytbpghogdjpobnaa", sum := "d5f06361a760f40ca517bfaf8d7d275014f8aae0a321acc69bf15dbb0c0be49e", func := "almagest/almagestlaw18.VerdictRoom", spec := "verdictRoom", plainKeys := false, apart := false, narrowed := true }
def VerdictRoomUptoSaid : Prop := verdictRoomUptoRow.holds Try.pinned (OpenSpec.upto verdictRoomSpec)

/-- 'almagestlaw18.VerdictLast', WHERE WHAT IT READS IS OF BULK AT MOST 1048576: true; the input reads as it did. -/
def verdictLastUptoRow : OpenClaim := { program := "ytbpghogdjpobnaa", sum := "d5f06361a760f40ca517bfaf8d7d275014f8aae0a321acc69bf15dbb0c0be49e", func := "almagest/almagestlaw18.VerdictLast", spec := "verdictLast", plainKeys := false, apart := false, narrowed := true }
def VerdictLastUptoSaid : Prop := verdictLastUptoRow.holds Try.pinned (OpenSpec.upto verdictLastSpec)

end Rows
end Go.Proofs.Ytbpghogdjpobnaa
