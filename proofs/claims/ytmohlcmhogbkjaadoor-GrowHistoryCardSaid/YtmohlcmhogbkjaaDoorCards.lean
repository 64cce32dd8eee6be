/-
  DERIVED. GIVEN WITH THE SEED: THE CARDS: each row of YtmohlcmhogbkjaaDoorRows.lean that lists a variable, with what it lists TIED to the program's text (the seventh form; the later family's looks); each row that meets fmt, with fmt's text TOLD by the authors' own Lean function (tested against real Go, not proved from fmt's source: count such statements apart). THE CARD IS WHAT COUNTS. Prove the row's statement (the work); the ties are given (YtmohlcmhogbkjaaDoorTie.lean); close each card by the builder's one call (the guide's Derived/Test/ToyasCard.lean, 'card_holds'). Laid BY PROGRAM, IN A SANDBOX (cutbox-door.mjs). By AI agents, Wed Nov 11 2026. No macro, syntax, notation, axiom, sorry.
-/
import Derived.Test.YtmohlcmhogbkjaaDoorRows
import GoSem.ClaimSeven
namespace Go.Proofs.YtmohlcmhogbkjaaDoor
namespace Rows

/-- THE TIED CARD OF 'almagestlaw10.GrowRight'. -/
def growRightCard : Claim7 := { stood := { row := growRightRow, standIns := [], harness := (true, "3714b639db234b2120b63f3b02030adf3ea2adca1dec96b64566ea7af78c2dd6"), looks := false }, kinds := [], alts := [], laidByText := true, laidKinds := [.data], laidTests := true, laidLooks := .later }
def GrowRightCardSaid : Prop := Claim7.holds Tryd.pinned (.plain (OpenSpec.ofChange growRightSpec)) growRightCard

/-- THE TIED CARD OF 'almagestlaw10.GrowChain'. -/
def growChainCard : Claim7 := { stood := { row := growChainRow, standIns := [], harness := (true, "3714b639db234b2120b63f3b02030adf3ea2adca1dec96b64566ea7af78c2dd6"), looks := false }, kinds := [], alts := [], laidByText := true, laidKinds := [.data], laidTests := true, laidLooks := .later }
def GrowChainCardSaid : Prop := Claim7.holds Tryd.pinned (.plain (OpenSpec.ofChange growChainSpec)) growChainCard

/-- THE TIED CARD OF 'almagestlaw10.GrowHistory'. -/
def growHistoryCard : Claim7 := { stood := { row := growHistoryRow, standIns := [], harness := (true, "3714b639db234b2120b63f3b02030adf3ea2adca1dec96b64566ea7af78c2dd6"), looks := false }, kinds := [], alts := [], laidByText := true, laidKinds := [.data, .data], laidTests := true, laidLooks := .later }
def GrowHistoryCardSaid : Prop := Claim7.holds Tryd.pinned (.plain (OpenSpec.ofChange growHistorySpec)) growHistoryCard

/-- THE SECOND FORM's CARD OF 'almagestlaw10.GrowRight'. -/
def growRightUptoCard : Claim7 := { stood := { row := growRightUptoRow, standIns := [], harness := (true, "3714b639db234b2120b63f3b02030adf3ea2adca1dec96b64566ea7af78c2dd6"), looks := false }, kinds := [], alts := [], laidByText := true, laidKinds := [.data], laidTests := true, laidLooks := .later }
def GrowRightUptoCardSaid : Prop := Claim7.holds Tryd.pinned (.plain (OpenSpec.upto growRightSpec)) growRightUptoCard

/-- THE SECOND FORM's CARD OF 'almagestlaw10.GrowChain'. -/
def growChainUptoCard : Claim7 := { stood := { row := growChainUptoRow, standIns := [], harness := (true, "3714b639db234b2120b63f3b02030adf3ea2adca1dec96b64566ea7af78c2dd6"), looks := false }, kinds := [], alts := [], laidByText := true, laidKinds := [.data], laidTests := true, laidLooks := .later }
def GrowChainUptoCardSaid : Prop := Claim7.holds Tryd.pinned (.plain (OpenSpec.upto growChainSpec)) growChainUptoCard

/-- THE SECOND FORM's CARD OF 'almagestlaw10.GrowHistory'. -/
def growHistoryUptoCard : Claim7 := { stood := { row := growHistoryUptoRow, standIns := [], harness := (true, "3714b639db234b2120b63f3b02030adf3ea2adca1dec96b64566ea7af78c2dd6"), looks := false }, kinds := [], alts := [], laidByText := true, laidKinds := [.data, .data], laidTests := true, laidLooks := .later }
def GrowHistoryUptoCardSaid : Prop := Claim7.holds Tryd.pinned (.plain (OpenSpec.upto growHistorySpec)) growHistoryUptoCard
end Rows
end Go.Proofs.YtmohlcmhogbkjaaDoor
