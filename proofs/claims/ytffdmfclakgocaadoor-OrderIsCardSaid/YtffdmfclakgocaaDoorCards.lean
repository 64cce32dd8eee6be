/-
  DERIVED. GIVEN WITH THE SEED: THE CARDS: each row of YtffdmfclakgocaaDoorRows.lean that lists a variable, with what it lists TIED to the program's text (the seventh form; the later family's looks); each row that meets fmt, with fmt's text TOLD by the authors' own Lean function (tested against real Go, not proved from fmt's source: count such statements apart). THE CARD IS WHAT COUNTS. Prove the row's statement (the work); the ties are given (YtffdmfclakgocaaDoorTie.lean); close each card by the builder's one call (the guide's Derived/Test/ToyasCard.lean, 'card_holds'). Laid BY PROGRAM, IN A SANDBOX (cutbox-door.mjs). By AI agents, Wed Nov 11 2026. No macro, syntax, notation, axiom, sorry.
-/
import Derived.Test.YtffdmfclakgocaaDoorRows
import GoSem.ClaimSeven
namespace Go.Proofs.YtffdmfclakgocaaDoor
namespace Rows

/-- THE TIED CARD OF 'almagestlaw12.OrderTells'. -/
def orderTellsCard : Claim7 := { stood := { row := orderTellsRow, standIns := [], harness := (true, "94d5c556001c468baaa4bb00532eb9477b3ee6e4ca439aaa94286b294ccec4e3"), looks := false }, kinds := [], alts := [], laidByText := true, laidKinds := [.data, .data], laidTests := true, laidLooks := .later }
def OrderTellsCardSaid : Prop := Claim7.holds Tryd.pinned (.plain (OpenSpec.ofChange orderTellsSpec)) orderTellsCard

/-- THE TIED CARD OF 'almagestlaw12.OrderIs'. -/
def orderIsCard : Claim7 := { stood := { row := orderIsRow, standIns := [], harness := (true, "94d5c556001c468baaa4bb00532eb9477b3ee6e4ca439aaa94286b294ccec4e3"), looks := false }, kinds := [], alts := [], laidByText := true, laidKinds := [.data], laidTests := true, laidLooks := .later }
def OrderIsCardSaid : Prop := Claim7.holds Tryd.pinned (.plain (OpenSpec.ofChange orderIsSpec)) orderIsCard

/-- THE TIED CARD OF 'almagestlaw12.OrderGreatest'. -/
def orderGreatestCard : Claim7 := { stood := { row := orderGreatestRow, standIns := [], harness := (true, "94d5c556001c468baaa4bb00532eb9477b3ee6e4ca439aaa94286b294ccec4e3"), looks := false }, kinds := [], alts := [], laidByText := true, laidKinds := [.data], laidTests := true, laidLooks := .later }
def OrderGreatestCardSaid : Prop := Claim7.holds Tryd.pinned (.plain (OpenSpec.ofChange orderGreatestSpec)) orderGreatestCard

/-- THE SECOND FORM's CARD OF 'almagestlaw12.OrderTells'. -/
def orderTellsUptoCard : Claim7 := { stood := { row := orderTellsUptoRow, standIns := [], harness := (true, "94d5c556001c468baaa4bb00532eb9477b3ee6e4ca439aaa94286b294ccec4e3"), looks := false }, kinds := [], alts := [], laidByText := true, laidKinds := [.data, .data], laidTests := true, laidLooks := .later }
def OrderTellsUptoCardSaid : Prop := Claim7.holds Tryd.pinned (.plain (OpenSpec.upto orderTellsSpec)) orderTellsUptoCard

/-- THE SECOND FORM's CARD OF 'almagestlaw12.OrderIs'. -/
def orderIsUptoCard : Claim7 := { stood := { row := orderIsUptoRow, standIns := [], harness := (true, "94d5c556001c468baaa4bb00532eb9477b3ee6e4ca439aaa94286b294ccec4e3"), looks := false }, kinds := [], alts := [], laidByText := true, laidKinds := [.data], laidTests := true, laidLooks := .later }
def OrderIsUptoCardSaid : Prop := Claim7.holds Tryd.pinned (.plain (OpenSpec.upto orderIsSpec)) orderIsUptoCard

/-- THE SECOND FORM's CARD OF 'almagestlaw12.OrderGreatest'. -/
def orderGreatestUptoCard : Claim7 := { stood := { row := orderGreatestUptoRow, standIns := [], harness := (true, "94d5c556001c468baaa4bb00532eb9477b3ee6e4ca439aaa94286b294ccec4e3"), looks := false }, kinds := [], alts := [], laidByText := true, laidKinds := [.data], laidTests := true, laidLooks := .later }
def OrderGreatestUptoCardSaid : Prop := Claim7.holds Tryd.pinned (.plain (OpenSpec.upto orderGreatestSpec)) orderGreatestUptoCard
end Rows
end Go.Proofs.YtffdmfclakgocaaDoor
