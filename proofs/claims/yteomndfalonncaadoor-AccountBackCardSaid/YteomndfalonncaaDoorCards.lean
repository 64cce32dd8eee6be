/-
  DERIVED. GIVEN WITH THE SEED: THE CARDS: each row of YteomndfalonncaaDoorRows.lean that lists a variable, with what it lists TIED to the program's text (the seventh form; the later family's looks); each row that meets fmt, with fmt's text TOLD by the authors' own Lean function (tested against real Go, not proved from fmt's source: count such statements apart). THE CARD IS WHAT COUNTS. Prove the row's statement (the work); the ties are given (YteomndfalonncaaDoorTie.lean); close each card by the builder's one call (the guide's Derived/Test/ToyasCard.lean, 'card_holds'). Laid BY PROGRAM, IN A SANDBOX (cutbox-door.mjs). By AI agents, Wed Nov 11 2026. No macro, syntax, notation, axiom, sorry.
-/
import Derived.Test.YteomndfalonncaaDoorRows
import GoSem.ClaimSeven
namespace Go.Proofs.YteomndfalonncaaDoor
namespace Rows

/-- THE TIED CARD OF 'almagestlaw14.AccountTells'. -/
def accountTellsCard : Claim7 := { stood := { row := accountTellsRow, standIns := [], harness := (true, "f214628d7caabf88b1d0993a195fb30a9cb9bdb4ea69652be6ac3b786b489285"), looks := false }, kinds := [], alts := [], laidByText := true, laidKinds := [.data, .data], laidTests := true, laidLooks := .later }
def AccountTellsCardSaid : Prop := Claim7.holds Tryd.pinned (.plain (OpenSpec.ofChange accountTellsSpec)) accountTellsCard

/-- THE TIED CARD OF 'almagestlaw14.AccountBack'. -/
def accountBackCard : Claim7 := { stood := { row := accountBackRow, standIns := [], harness := (true, "f214628d7caabf88b1d0993a195fb30a9cb9bdb4ea69652be6ac3b786b489285"), looks := false }, kinds := [], alts := [], laidByText := true, laidKinds := [.data, .data], laidTests := true, laidLooks := .later }
def AccountBackCardSaid : Prop := Claim7.holds Tryd.pinned (.plain (OpenSpec.ofChange accountBackSpec)) accountBackCard

/-- THE SECOND FORM's CARD OF 'almagestlaw14.AccountTells'. -/
def accountTellsUptoCard : Claim7 := { stood := { row := accountTellsUptoRow, standIns := [], harness := (true, "f214628d7caabf88b1d0993a195fb30a9cb9bdb4ea69652be6ac3b786b489285"), looks := false }, kinds := [], alts := [], laidByText := true, laidKinds := [.data, .data], laidTests := true, laidLooks := .later }
def AccountTellsUptoCardSaid : Prop := Claim7.holds Tryd.pinned (.plain (OpenSpec.upto accountTellsSpec)) accountTellsUptoCard

/-- THE SECOND FORM's CARD OF 'almagestlaw14.AccountBack'. -/
def accountBackUptoCard : Claim7 := { stood := { row := accountBackUptoRow, standIns := [], harness := (true, "f214628d7caabf88b1d0993a195fb30a9cb9bdb4ea69652be6ac3b786b489285"), looks := false }, kinds := [], alts := [], laidByText := true, laidKinds := [.data, .data], laidTests := true, laidLooks := .later }
def AccountBackUptoCardSaid : Prop := Claim7.holds Tryd.pinned (.plain (OpenSpec.upto accountBackSpec)) accountBackUptoCard
end Rows
end Go.Proofs.YteomndfalonncaaDoor
