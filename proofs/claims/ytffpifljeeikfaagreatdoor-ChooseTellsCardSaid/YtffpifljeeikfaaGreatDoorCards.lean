/-
  DERIVED. GIVEN WITH THE SEED: THE CARDS: each row of YtffpifljeeikfaaGreatDoorRows.lean that lists a variable, with what it lists TIED to the program's text (the seventh form; the later family's looks); each row that meets fmt, with fmt's text TOLD by the authors' own Lean function (tested against real Go, not proved from fmt's source: count such statements apart). THE CARD IS WHAT COUNTS. Prove the row's statement (the work); the ties are given (YtffpifljeeikfaaGreatDoorTie.lean); close each card by the builder's one call (the guide's Derived/Test/ToyasCard.lean, 'card_holds'). Laid BY PROGRAM, IN A SANDBOX (cutbox-door.mjs). By AI agents, Wed Nov 11 2026. No macro, syntax, notation, axiom, sorry.
-/
import Derived.Test.YtffpifljeeikfaaGreatDoorRows
import GoSem.ClaimSeven
namespace Go.Proofs.YtffpifljeeikfaaGreatDoor
namespace Rows

/-- THE TIED CARD OF 'almagestlaw13.ChooseTells'. -/
def chooseTellsCard : Claim7 := { stood := { row := chooseTellsRow, standIns := [], harness := (true, "4c5200b5b7aaf48546a7a72cbe429f3317115135834278621cc617d6818fdeda"), looks := false }, kinds := [], alts := [], laidByText := true, laidKinds := [.data, .data], laidTests := true, laidLooks := .later }
def ChooseTellsCardSaid : Prop := Claim7.holds Tryz.pinned (.plain (OpenSpec.ofChange chooseTellsSpec)) chooseTellsCard

/-- THE SECOND FORM's CARD OF 'almagestlaw13.ChooseTells'. -/
def chooseTellsUptoCard : Claim7 := { stood := { row := chooseTellsUptoRow, standIns := [], harness := (true, "4c5200b5b7aaf48546a7a72cbe429f3317115135834278621cc617d6818fdeda"), looks := false }, kinds := [], alts := [], laidByText := true, laidKinds := [.data, .data], laidTests := true, laidLooks := .later }
def ChooseTellsUptoCardSaid : Prop := Claim7.holds Tryz.pinned (.plain (OpenSpec.upto chooseTellsSpec)) chooseTellsUptoCard
end Rows
end Go.Proofs.YtffpifljeeikfaaGreatDoor
