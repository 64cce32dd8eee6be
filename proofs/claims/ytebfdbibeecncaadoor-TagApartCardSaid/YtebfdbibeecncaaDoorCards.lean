/-
  DERIVED. GIVEN WITH THE SEED: THE CARDS: each row of YtebfdbibeecncaaDoorRows.lean that lists a variable, with what it lists TIED to the program's text (the seventh form; the later family's looks); each row that meets fmt, with fmt's text TOLD by the authors' own Lean function (tested against real Go, not proved from fmt's source: count such statements apart). THE CARD IS WHAT COUNTS. Prove the row's statement (the work); the ties are given (YtebfdbibeecncaaDoorTie.lean); close each card by the builder's one call (the guide's Derived/Test/ToyasCard.lean, 'card_holds'). Laid BY PROGRAM, IN A SANDBOX (cutbox-door.mjs). By AI agents, Wed Nov 11 2026. No macro, syntax, notation, axiom, sorry.
-/
import Derived.Test.YtebfdbibeecncaaDoorRows
import GoSem.ClaimSeven
namespace Go.Proofs.YtebfdbibeecncaaDoor
namespace Rows

/-- THE TIED CARD OF 'almagestlaw03.TagTells'. -/
def tagTellsCard : Claim7 := { stood := { row := tagTellsRow, standIns := [], harness := (true, "f97a8e924406049d84bb7dbc188eb70dd13f399fe222fdff4b3fe89b3b889a57"), looks := false }, kinds := [], alts := [], laidByText := true, laidKinds := [.data, .data], laidTests := true, laidLooks := .later }
def TagTellsCardSaid : Prop := Claim7.holds Tryd.pinned (.plain (OpenSpec.ofChange tagTellsSpec)) tagTellsCard

/-- THE TIED CARD OF 'almagestlaw03.TagApart'. -/
def tagApartCard : Claim7 := { stood := { row := tagApartRow, standIns := [], harness := (true, "f97a8e924406049d84bb7dbc188eb70dd13f399fe222fdff4b3fe89b3b889a57"), looks := false }, kinds := [], alts := [], laidByText := true, laidKinds := [.data, .data], laidTests := true, laidLooks := .later }
def TagApartCardSaid : Prop := Claim7.holds Tryd.pinned (.plain (OpenSpec.ofChange tagApartSpec)) tagApartCard

/-- THE TIED CARD OF 'almagestlaw03.TagKnows'. -/
def tagKnowsCard : Claim7 := { stood := { row := tagKnowsRow, standIns := [], harness := (true, "f97a8e924406049d84bb7dbc188eb70dd13f399fe222fdff4b3fe89b3b889a57"), looks := false }, kinds := [], alts := [], laidByText := true, laidKinds := [.data, .data], laidTests := true, laidLooks := .later }
def TagKnowsCardSaid : Prop := Claim7.holds Tryd.pinned (.plain (OpenSpec.ofChange tagKnowsSpec)) tagKnowsCard

/-- THE SECOND FORM's CARD OF 'almagestlaw03.TagTells'. -/
def tagTellsUptoCard : Claim7 := { stood := { row := tagTellsUptoRow, standIns := [], harness := (true, "f97a8e924406049d84bb7dbc188eb70dd13f399fe222fdff4b3fe89b3b889a57"), looks := false }, kinds := [], alts := [], laidByText := true, laidKinds := [.data, .data], laidTests := true, laidLooks := .later }
def TagTellsUptoCardSaid : Prop := Claim7.holds Tryd.pinned (.plain (OpenSpec.upto tagTellsSpec)) tagTellsUptoCard

/-- THE SECOND FORM's CARD OF 'almagestlaw03.TagApart'. -/
def tagApartUptoCard : Claim7 := { stood := { row := tagApartUptoRow, standIns := [], harness := (true, "f97a8e924406049d84bb7dbc188eb70dd13f399fe222fdff4b3fe89b3b889a57"), looks := false }, kinds := [], alts := [], laidByText := true, laidKinds := [.data, .data], laidTests := true, laidLooks := .later }
def TagApartUptoCardSaid : Prop := Claim7.holds Tryd.pinned (.plain (OpenSpec.upto tagApartSpec)) tagApartUptoCard

/-- THE SECOND FORM's CARD OF 'almagestlaw03.TagKnows'. -/
def tagKnowsUptoCard : Claim7 := { stood := { row := tagKnowsUptoRow, standIns := [], harness := (true, "f97a8e924406049d84bb7dbc188eb70dd13f399fe222fdff4b3fe89b3b889a57"), looks := false }, kinds := [], alts := [], laidByText := true, laidKinds := [.data, .data], laidTests := true, laidLooks := .later }
def TagKnowsUptoCardSaid : Prop := Claim7.holds Tryd.pinned (.plain (OpenSpec.upto tagKnowsSpec)) tagKnowsUptoCard
end Rows
end Go.Proofs.YtebfdbibeecncaaDoor
