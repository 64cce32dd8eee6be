/-
  DERIVED. GIVEN WITH THE SEED: THE CARDS: each row of YtmohlcmhogbkjaaGreatDoorRows.lean that lists a variable, with what it lists TIED to the program's text (the seventh form; the later family's looks); each row that meets fmt, with fmt's text TOLD by the authors' own Lean function (tested against real Go, not proved from fmt's source: count such statements apart). THE CARD IS WHAT COUNTS. Prove the row's statement (the work); the ties are given (YtmohlcmhogbkjaaGreatDoorTie.lean); close each card by the builder's one call (the guide's Derived/Test/ToyasCard.lean, 'card_holds'). Laid BY PROGRAM, IN A SANDBOX (cutbox-door.mjs). By AI agents, Wed Nov 11 2026. No macro, syntax, notation, axiom, sorry.
-/
import Derived.Test.YtmohlcmhogbkjaaGreatDoorRows
import GoSem.ClaimSeven
namespace Go.Proofs.YtmohlcmhogbkjaaGreatDoor
namespace Rows

/-- THE TIED CARD OF 'almagestlaw10.GrowTells'. -/
def growTellsCard : Claim7 := { stood := { row := growTellsRow, standIns := [], harness := (true, "bdd374fa927533d5c7d4783f3150818a2eecdaeadcc6544541a6d4ff18a405cb"), looks := false }, kinds := [], alts := [], laidByText := true, laidKinds := [.data, .data], laidTests := true, laidLooks := .later }
def GrowTellsCardSaid : Prop := Claim7.holds Tryz.pinned (.plain (OpenSpec.ofChange growTellsSpec)) growTellsCard

/-- THE SECOND FORM's CARD OF 'almagestlaw10.GrowTells'. -/
def growTellsUptoCard : Claim7 := { stood := { row := growTellsUptoRow, standIns := [], harness := (true, "bdd374fa927533d5c7d4783f3150818a2eecdaeadcc6544541a6d4ff18a405cb"), looks := false }, kinds := [], alts := [], laidByText := true, laidKinds := [.data, .data], laidTests := true, laidLooks := .later }
def GrowTellsUptoCardSaid : Prop := Claim7.holds Tryz.pinned (.plain (OpenSpec.upto growTellsSpec)) growTellsUptoCard
end Rows
end Go.Proofs.YtmohlcmhogbkjaaGreatDoor
