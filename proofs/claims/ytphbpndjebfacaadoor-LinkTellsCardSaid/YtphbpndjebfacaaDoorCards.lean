/-
  DERIVED. GIVEN WITH THE SEED: THE CARDS: each row of YtphbpndjebfacaaDoorRows.lean that lists a variable, with what it lists TIED to the program's text (the seventh form; the later family's looks); each row that meets fmt, with fmt's text TOLD by the authors' own Lean function (tested against real Go, not proved from fmt's source: count such statements apart). THE CARD IS WHAT COUNTS. Prove the row's statement (the work); the ties are given (YtphbpndjebfacaaDoorTie.lean); close each card by the builder's one call (the guide's Derived/Test/ToyasCard.lean, 'card_holds'). Laid BY PROGRAM, IN A SANDBOX (cutbox-door.mjs). By AI agents, Wed Nov 11 2026. No macro, syntax, notation, axiom, sorry.
-/
import Derived.Test.YtphbpndjebfacaaDoorRows
import GoSem.ClaimSeven
namespace Go.Proofs.YtphbpndjebfacaaDoor
namespace Rows

/-- THE TIED CARD OF 'almagestlaw11.LinkTells'. -/
def linkTellsCard : Claim7 := { stood := { row := linkTellsRow, standIns := [], harness := (true, "443c04e04a0787bbfa035b4973f2000d5a5dd267695514b18b454f441af79fd3"), looks := false }, kinds := [], alts := [], laidByText := true, laidKinds := [.data, .data], laidTests := true, laidLooks := .later }
def LinkTellsCardSaid : Prop := Claim7.holds Tryd.pinned (.plain (OpenSpec.ofChange linkTellsSpec)) linkTellsCard

/-- THE TIED CARD OF 'almagestlaw11.LinkOne'. -/
def linkOneCard : Claim7 := { stood := { row := linkOneRow, standIns := [], harness := (true, "443c04e04a0787bbfa035b4973f2000d5a5dd267695514b18b454f441af79fd3"), looks := false }, kinds := [], alts := [], laidByText := true, laidKinds := [.data], laidTests := true, laidLooks := .later }
def LinkOneCardSaid : Prop := Claim7.holds Tryd.pinned (.plain (OpenSpec.ofChange linkOneSpec)) linkOneCard

/-- THE TIED CARD OF 'almagestlaw11.LinkLine'. -/
def linkLineCard : Claim7 := { stood := { row := linkLineRow, standIns := [], harness := (true, "443c04e04a0787bbfa035b4973f2000d5a5dd267695514b18b454f441af79fd3"), looks := false }, kinds := [], alts := [], laidByText := true, laidKinds := [.data], laidTests := true, laidLooks := .later }
def LinkLineCardSaid : Prop := Claim7.holds Tryd.pinned (.plain (OpenSpec.ofChange linkLineSpec)) linkLineCard

/-- THE SECOND FORM's CARD OF 'almagestlaw11.LinkTells'. -/
def linkTellsUptoCard : Claim7 := { stood := { row := linkTellsUptoRow, standIns := [], harness := (true, "443c04e04a0787bbfa035b4973f2000d5a5dd267695514b18b454f441af79fd3"), looks := false }, kinds := [], alts := [], laidByText := true, laidKinds := [.data, .data], laidTests := true, laidLooks := .later }
def LinkTellsUptoCardSaid : Prop := Claim7.holds Tryd.pinned (.plain (OpenSpec.upto linkTellsSpec)) linkTellsUptoCard

/-- THE SECOND FORM's CARD OF 'almagestlaw11.LinkOne'. -/
def linkOneUptoCard : Claim7 := { stood := { row := linkOneUptoRow, standIns := [], harness := (true, "443c04e04a0787bbfa035b4973f2000d5a5dd267695514b18b454f441af79fd3"), looks := false }, kinds := [], alts := [], laidByText := true, laidKinds := [.data], laidTests := true, laidLooks := .later }
def LinkOneUptoCardSaid : Prop := Claim7.holds Tryd.pinned (.plain (OpenSpec.upto linkOneSpec)) linkOneUptoCard

/-- THE SECOND FORM's CARD OF 'almagestlaw11.LinkLine'. -/
def linkLineUptoCard : Claim7 := { stood := { row := linkLineUptoRow, standIns := [], harness := (true, "443c04e04a0787bbfa035b4973f2000d5a5dd267695514b18b454f441af79fd3"), looks := false }, kinds := [], alts := [], laidByText := true, laidKinds := [.data], laidTests := true, laidLooks := .later }
def LinkLineUptoCardSaid : Prop := Claim7.holds Tryd.pinned (.plain (OpenSpec.upto linkLineSpec)) linkLineUptoCard
end Rows
end Go.Proofs.YtphbpndjebfacaaDoor
