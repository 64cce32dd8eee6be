/-
  DERIVED. GIVEN WITH THE SEED: THE CARDS: each row of YtijpgncecfgfdaaDoorRows.lean that lists a variable, with what it lists TIED to the program's text (the seventh form; the later family's looks); each row that meets fmt, with fmt's text TOLD by the authors' own Lean function (tested against real Go, not proved from fmt's source: count such statements apart). THE CARD IS WHAT COUNTS. Prove the row's statement (the work); the ties are given (YtijpgncecfgfdaaDoorTie.lean); close each card by the builder's one call (the guide's Derived/Test/ToyasCard.lean, 'card_holds'). Laid BY PROGRAM, IN A SANDBOX (cutbox-door.mjs). By AI agents, Wed Nov 11 2026. No macro, syntax, notation, axiom, sorry.
-/
import Derived.Test.YtijpgncecfgfdaaDoorRows
import GoSem.ClaimSeven
namespace Go.Proofs.YtijpgncecfgfdaaDoor
namespace Rows

/-- THE TIED CARD OF 'almagestlaw08.EpochTells'. -/
def epochTellsCard : Claim7 := { stood := { row := epochTellsRow, standIns := [], harness := (true, "0b446cd951f63195497b1ce31b0cec1cd161bcc90c898eeec6ae18cde9d35715"), looks := false }, kinds := [], alts := [], laidByText := true, laidKinds := [.data, .data], laidTests := true, laidLooks := .later }
def EpochTellsCardSaid : Prop := Claim7.holds Tryd.pinned (.plain (OpenSpec.ofChange epochTellsSpec)) epochTellsCard

/-- THE TIED CARD OF 'almagestlaw08.EpochHistory'. -/
def epochHistoryCard : Claim7 := { stood := { row := epochHistoryRow, standIns := [], harness := (true, "0b446cd951f63195497b1ce31b0cec1cd161bcc90c898eeec6ae18cde9d35715"), looks := false }, kinds := [], alts := [], laidByText := true, laidKinds := [.data, .data], laidTests := true, laidLooks := .later }
def EpochHistoryCardSaid : Prop := Claim7.holds Tryd.pinned (.plain (OpenSpec.ofChange epochHistorySpec)) epochHistoryCard

/-- THE TIED CARD OF 'almagestlaw08.EpochDraws'. -/
def epochDrawsCard : Claim7 := { stood := { row := epochDrawsRow, standIns := [], harness := (true, "0b446cd951f63195497b1ce31b0cec1cd161bcc90c898eeec6ae18cde9d35715"), looks := false }, kinds := [], alts := [], laidByText := true, laidKinds := [.data, .data], laidTests := true, laidLooks := .later }
def EpochDrawsCardSaid : Prop := Claim7.holds Tryd.pinned (.plain (OpenSpec.ofChange epochDrawsSpec)) epochDrawsCard

/-- THE TIED CARD OF 'almagestlaw08.EpochTurn'. -/
def epochTurnCard : Claim7 := { stood := { row := epochTurnRow, standIns := [], harness := (true, "0b446cd951f63195497b1ce31b0cec1cd161bcc90c898eeec6ae18cde9d35715"), looks := false }, kinds := [], alts := [], laidByText := true, laidKinds := [.data, .data], laidTests := true, laidLooks := .later }
def EpochTurnCardSaid : Prop := Claim7.holds Tryd.pinned (.plain (OpenSpec.ofChange epochTurnSpec)) epochTurnCard

/-- THE SECOND FORM's CARD OF 'almagestlaw08.EpochTells'. -/
def epochTellsUptoCard : Claim7 := { stood := { row := epochTellsUptoRow, standIns := [], harness := (true, "0b446cd951f63195497b1ce31b0cec1cd161bcc90c898eeec6ae18cde9d35715"), looks := false }, kinds := [], alts := [], laidByText := true, laidKinds := [.data, .data], laidTests := true, laidLooks := .later }
def EpochTellsUptoCardSaid : Prop := Claim7.holds Tryd.pinned (.plain (OpenSpec.upto epochTellsSpec)) epochTellsUptoCard

/-- THE SECOND FORM's CARD OF 'almagestlaw08.EpochHistory'. -/
def epochHistoryUptoCard : Claim7 := { stood := { row := epochHistoryUptoRow, standIns := [], harness := (true, "0b446cd951f63195497b1ce31b0cec1cd161bcc90c898eeec6ae18cde9d35715"), looks := false }, kinds := [], alts := [], laidByText := true, laidKinds := [.data, .data], laidTests := true, laidLooks := .later }
def EpochHistoryUptoCardSaid : Prop := Claim7.holds Tryd.pinned (.plain (OpenSpec.upto epochHistorySpec)) epochHistoryUptoCard

/-- THE SECOND FORM's CARD OF 'almagestlaw08.EpochDraws'. -/
def epochDrawsUptoCard : Claim7 := { stood := { row := epochDrawsUptoRow, standIns := [], harness := (true, "0b446cd951f63195497b1ce31b0cec1cd161bcc90c898eeec6ae18cde9d35715"), looks := false }, kinds := [], alts := [], laidByText := true, laidKinds := [.data, .data], laidTests := true, laidLooks := .later }
def EpochDrawsUptoCardSaid : Prop := Claim7.holds Tryd.pinned (.plain (OpenSpec.upto epochDrawsSpec)) epochDrawsUptoCard

/-- THE SECOND FORM's CARD OF 'almagestlaw08.EpochTurn'. -/
def epochTurnUptoCard : Claim7 := { stood := { row := epochTurnUptoRow, standIns := [], harness := (true, "0b446cd951f63195497b1ce31b0cec1cd161bcc90c898eeec6ae18cde9d35715"), looks := false }, kinds := [], alts := [], laidByText := true, laidKinds := [.data, .data], laidTests := true, laidLooks := .later }
def EpochTurnUptoCardSaid : Prop := Claim7.holds Tryd.pinned (.plain (OpenSpec.upto epochTurnSpec)) epochTurnUptoCard
end Rows
end Go.Proofs.YtijpgncecfgfdaaDoor
