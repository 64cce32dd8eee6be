/-
  DERIVED. GIVEN WITH THE SEED: THE CARDS: each row of YtffpifljeeikfaaDoorRows.lean that lists a variable, with what it lists TIED to the program's text (the seventh form; the later family's looks); each row that meets fmt, with fmt's text TOLD by the authors' own Lean function (tested against real Go, not proved from fmt's source: count such statements apart). THE CARD IS WHAT COUNTS. Prove the row's statement (the work); the ties are given (YtffpifljeeikfaaDoorTie.lean); close each card by the builder's one call (the guide's Derived/Test/ToyasCard.lean, 'card_holds'). Laid BY PROGRAM, IN A SANDBOX (cutbox-door.mjs). By AI agents, Wed Nov 11 2026. No macro, syntax, notation, axiom, sorry.
-/
import Derived.Test.YtffpifljeeikfaaDoorRows
import GoSem.ClaimSeven
namespace Go.Proofs.YtffpifljeeikfaaDoor
namespace Rows

/-- THE TIED CARD OF 'almagestlaw13.ChooseOne'. -/
def chooseOneCard : Claim7 := { stood := { row := chooseOneRow, standIns := [], harness := (true, "af82edda742eaeefa60d191371d4ec7fca1fd0c866b77ef10e9385745d5027e9"), looks := false }, kinds := [], alts := [], laidByText := true, laidKinds := [.data], laidTests := true, laidLooks := .later }
def ChooseOneCardSaid : Prop := Claim7.holds Tryd.pinned (.plain (OpenSpec.ofChange chooseOneSpec)) chooseOneCard

/-- THE TIED CARD OF 'almagestlaw13.ChooseNear'. -/
def chooseNearCard : Claim7 := { stood := { row := chooseNearRow, standIns := [], harness := (true, "af82edda742eaeefa60d191371d4ec7fca1fd0c866b77ef10e9385745d5027e9"), looks := false }, kinds := [], alts := [], laidByText := true, laidKinds := [.data], laidTests := true, laidLooks := .later }
def ChooseNearCardSaid : Prop := Claim7.holds Tryd.pinned (.plain (OpenSpec.ofChange chooseNearSpec)) chooseNearCard

/-- THE TIED CARD OF 'almagestlaw13.ChooseLast'. -/
def chooseLastCard : Claim7 := { stood := { row := chooseLastRow, standIns := [], harness := (true, "af82edda742eaeefa60d191371d4ec7fca1fd0c866b77ef10e9385745d5027e9"), looks := false }, kinds := [], alts := [], laidByText := true, laidKinds := [.data], laidTests := true, laidLooks := .later }
def ChooseLastCardSaid : Prop := Claim7.holds Tryd.pinned (.plain (OpenSpec.ofChange chooseLastSpec)) chooseLastCard

/-- THE SECOND FORM's CARD OF 'almagestlaw13.ChooseOne'. -/
def chooseOneUptoCard : Claim7 := { stood := { row := chooseOneUptoRow, standIns := [], harness := (true, "af82edda742eaeefa60d191371d4ec7fca1fd0c866b77ef10e9385745d5027e9"), looks := false }, kinds := [], alts := [], laidByText := true, laidKinds := [.data], laidTests := true, laidLooks := .later }
def ChooseOneUptoCardSaid : Prop := Claim7.holds Tryd.pinned (.plain (OpenSpec.upto chooseOneSpec)) chooseOneUptoCard

/-- THE SECOND FORM's CARD OF 'almagestlaw13.ChooseNear'. -/
def chooseNearUptoCard : Claim7 := { stood := { row := chooseNearUptoRow, standIns := [], harness := (true, "af82edda742eaeefa60d191371d4ec7fca1fd0c866b77ef10e9385745d5027e9"), looks := false }, kinds := [], alts := [], laidByText := true, laidKinds := [.data], laidTests := true, laidLooks := .later }
def ChooseNearUptoCardSaid : Prop := Claim7.holds Tryd.pinned (.plain (OpenSpec.upto chooseNearSpec)) chooseNearUptoCard

/-- THE SECOND FORM's CARD OF 'almagestlaw13.ChooseLast'. -/
def chooseLastUptoCard : Claim7 := { stood := { row := chooseLastUptoRow, standIns := [], harness := (true, "af82edda742eaeefa60d191371d4ec7fca1fd0c866b77ef10e9385745d5027e9"), looks := false }, kinds := [], alts := [], laidByText := true, laidKinds := [.data], laidTests := true, laidLooks := .later }
def ChooseLastUptoCardSaid : Prop := Claim7.holds Tryd.pinned (.plain (OpenSpec.upto chooseLastSpec)) chooseLastUptoCard
end Rows
end Go.Proofs.YtffpifljeeikfaaDoor
