/-
  DERIVED. GIVEN WITH THE SEED: THE CARDS: each row of YtaihhbiocolhcaaDoorRows.lean that lists a variable, with what it lists TIED to the program's text (the seventh form; the later family's looks); each row that meets fmt, with fmt's text TOLD by the authors' own Lean function (tested against real Go, not proved from fmt's source: count such statements apart). THE CARD IS WHAT COUNTS. Prove the row's statement (the work); the ties are given (YtaihhbiocolhcaaDoorTie.lean); close each card by the builder's one call (the guide's Derived/Test/ToyasCard.lean, 'card_holds'). Laid BY PROGRAM, IN A SANDBOX (cutbox-door.mjs). By AI agents, Wed Nov 11 2026. No macro, syntax, notation, axiom, sorry.
-/
import Derived.Test.YtaihhbiocolhcaaDoorRows
import GoSem.ClaimSeven
namespace Go.Proofs.YtaihhbiocolhcaaDoor
namespace Rows

/-- THE TIED CARD OF 'almagestlaw16.ProofTells'. -/
def proofTellsCard : Claim7 := { stood := { row := proofTellsRow, standIns := [], harness := (true, "a817c4d46e3ca74783eeb209493d8bd9ef19dbb514d395d248b1582bd99d51db"), looks := false }, kinds := [], alts := [], laidByText := true, laidKinds := [.data, .data], laidTests := true, laidLooks := .later }
def ProofTellsCardSaid : Prop := Claim7.holds Tryd.pinned (.plain (OpenSpec.ofChange proofTellsSpec)) proofTellsCard

/-- THE TIED CARD OF 'almagestlaw16.ProofAccepts'. -/
def proofAcceptsCard : Claim7 := { stood := { row := proofAcceptsRow, standIns := [], harness := (true, "a817c4d46e3ca74783eeb209493d8bd9ef19dbb514d395d248b1582bd99d51db"), looks := false }, kinds := [], alts := [], laidByText := true, laidKinds := [.data], laidTests := true, laidLooks := .later }
def ProofAcceptsCardSaid : Prop := Claim7.holds Tryd.pinned (.plain (OpenSpec.ofChange proofAcceptsSpec)) proofAcceptsCard

/-- THE TIED CARD OF 'almagestlaw16.ProofClash'. -/
def proofClashCard : Claim7 := { stood := { row := proofClashRow, standIns := [], harness := (true, "a817c4d46e3ca74783eeb209493d8bd9ef19dbb514d395d248b1582bd99d51db"), looks := false }, kinds := [], alts := [], laidByText := true, laidKinds := [.data, .data], laidTests := true, laidLooks := .later }
def ProofClashCardSaid : Prop := Claim7.holds Tryd.pinned (.plain (OpenSpec.ofChange proofClashSpec)) proofClashCard

/-- THE TIED CARD OF 'almagestlaw16.ProofMoved'. -/
def proofMovedCard : Claim7 := { stood := { row := proofMovedRow, standIns := [], harness := (true, "a817c4d46e3ca74783eeb209493d8bd9ef19dbb514d395d248b1582bd99d51db"), looks := false }, kinds := [], alts := [], laidByText := true, laidKinds := [.data], laidTests := true, laidLooks := .later }
def ProofMovedCardSaid : Prop := Claim7.holds Tryd.pinned (.plain (OpenSpec.ofChange proofMovedSpec)) proofMovedCard

/-- THE SECOND FORM's CARD OF 'almagestlaw16.ProofTells'. -/
def proofTellsUptoCard : Claim7 := { stood := { row := proofTellsUptoRow, standIns := [], harness := (true, "a817c4d46e3ca74783eeb209493d8bd9ef19dbb514d395d248b1582bd99d51db"), looks := false }, kinds := [], alts := [], laidByText := true, laidKinds := [.data, .data], laidTests := true, laidLooks := .later }
def ProofTellsUptoCardSaid : Prop := Claim7.holds Tryd.pinned (.plain (OpenSpec.upto proofTellsSpec)) proofTellsUptoCard

/-- THE SECOND FORM's CARD OF 'almagestlaw16.ProofAccepts'. -/
def proofAcceptsUptoCard : Claim7 := { stood := { row := proofAcceptsUptoRow, standIns := [], harness := (true, "a817c4d46e3ca74783eeb209493d8bd9ef19dbb514d395d248b1582bd99d51db"), looks := false }, kinds := [], alts := [], laidByText := true, laidKinds := [.data], laidTests := true, laidLooks := .later }
def ProofAcceptsUptoCardSaid : Prop := Claim7.holds Tryd.pinned (.plain (OpenSpec.upto proofAcceptsSpec)) proofAcceptsUptoCard

/-- THE SECOND FORM's CARD OF 'almagestlaw16.ProofClash'. -/
def proofClashUptoCard : Claim7 := { stood := { row := proofClashUptoRow, standIns := [], harness := (true, "a817c4d46e3ca74783eeb209493d8bd9ef19dbb514d395d248b1582bd99d51db"), looks := false }, kinds := [], alts := [], laidByText := true, laidKinds := [.data, .data], laidTests := true, laidLooks := .later }
def ProofClashUptoCardSaid : Prop := Claim7.holds Tryd.pinned (.plain (OpenSpec.upto proofClashSpec)) proofClashUptoCard

/-- THE SECOND FORM's CARD OF 'almagestlaw16.ProofMoved'. -/
def proofMovedUptoCard : Claim7 := { stood := { row := proofMovedUptoRow, standIns := [], harness := (true, "a817c4d46e3ca74783eeb209493d8bd9ef19dbb514d395d248b1582bd99d51db"), looks := false }, kinds := [], alts := [], laidByText := true, laidKinds := [.data], laidTests := true, laidLooks := .later }
def ProofMovedUptoCardSaid : Prop := Claim7.holds Tryd.pinned (.plain (OpenSpec.upto proofMovedSpec)) proofMovedUptoCard
end Rows
end Go.Proofs.YtaihhbiocolhcaaDoor
