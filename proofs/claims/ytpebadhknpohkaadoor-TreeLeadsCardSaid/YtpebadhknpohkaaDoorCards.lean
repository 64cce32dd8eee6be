/-
  DERIVED. GIVEN WITH THE SEED: THE CARDS: each row of YtpebadhknpohkaaDoorRows.lean that lists a variable, with what it lists TIED to the program's text (the seventh form; the later family's looks); each row that meets fmt, with fmt's text TOLD by the authors' own Lean function (tested against real Go, not proved from fmt's source: count such statements apart). THE CARD IS WHAT COUNTS. Prove the row's statement (the work); the ties are given (YtpebadhknpohkaaDoorTie.lean); close each card by the builder's one call (the guide's Derived/Test/ToyasCard.lean, 'card_holds'). Laid BY PROGRAM, IN A SANDBOX (cutbox-door.mjs). By AI agents, Wed Nov 11 2026. No macro, syntax, notation, axiom, sorry.
-/
import Derived.Test.YtpebadhknpohkaaDoorRows
import GoSem.ClaimSeven
namespace Go.Proofs.YtpebadhknpohkaaDoor
namespace Rows

/-- THE TIED CARD OF 'almagestlaw15.TreeDoes'. -/
def treeDoesCard : Claim7 := { stood := { row := treeDoesRow, standIns := [], harness := (true, "fd4bd480f7f2f7789aa3dc34f123cc51b3ec3820e9a5033697dc39cfb7b936ae"), looks := false }, kinds := [], alts := [], laidByText := true, laidKinds := [.data, .data], laidTests := true, laidLooks := .later }
def TreeDoesCardSaid : Prop := Claim7.holds Tryd.pinned (.plain (OpenSpec.ofChange treeDoesSpec)) treeDoesCard

/-- THE TIED CARD OF 'almagestlaw15.TreeLeads'. -/
def treeLeadsCard : Claim7 := { stood := { row := treeLeadsRow, standIns := [], harness := (true, "fd4bd480f7f2f7789aa3dc34f123cc51b3ec3820e9a5033697dc39cfb7b936ae"), looks := false }, kinds := [], alts := [], laidByText := true, laidKinds := [.data], laidTests := true, laidLooks := .later }
def TreeLeadsCardSaid : Prop := Claim7.holds Tryd.pinned (.plain (OpenSpec.ofChange treeLeadsSpec)) treeLeadsCard

/-- THE TIED CARD OF 'almagestlaw15.TreeOrder'. -/
def treeOrderCard : Claim7 := { stood := { row := treeOrderRow, standIns := [], harness := (true, "fd4bd480f7f2f7789aa3dc34f123cc51b3ec3820e9a5033697dc39cfb7b936ae"), looks := false }, kinds := [], alts := [], laidByText := true, laidKinds := [.data], laidTests := true, laidLooks := .later }
def TreeOrderCardSaid : Prop := Claim7.holds Tryd.pinned (.plain (OpenSpec.ofChange treeOrderSpec)) treeOrderCard

/-- THE TIED CARD OF 'almagestlaw15.TreeAlone'. -/
def treeAloneCard : Claim7 := { stood := { row := treeAloneRow, standIns := [], harness := (true, "fd4bd480f7f2f7789aa3dc34f123cc51b3ec3820e9a5033697dc39cfb7b936ae"), looks := false }, kinds := [], alts := [], laidByText := true, laidKinds := [.data], laidTests := true, laidLooks := .later }
def TreeAloneCardSaid : Prop := Claim7.holds Tryd.pinned (.plain (OpenSpec.ofChange treeAloneSpec)) treeAloneCard

/-- THE SECOND FORM's CARD OF 'almagestlaw15.TreeDoes'. -/
def treeDoesUptoCard : Claim7 := { stood := { row := treeDoesUptoRow, standIns := [], harness := (true, "fd4bd480f7f2f7789aa3dc34f123cc51b3ec3820e9a5033697dc39cfb7b936ae"), looks := false }, kinds := [], alts := [], laidByText := true, laidKinds := [.data, .data], laidTests := true, laidLooks := .later }
def TreeDoesUptoCardSaid : Prop := Claim7.holds Tryd.pinned (.plain (OpenSpec.upto treeDoesSpec)) treeDoesUptoCard

/-- THE SECOND FORM's CARD OF 'almagestlaw15.TreeLeads'. -/
def treeLeadsUptoCard : Claim7 := { stood := { row := treeLeadsUptoRow, standIns := [], harness := (true, "fd4bd480f7f2f7789aa3dc34f123cc51b3ec3820e9a5033697dc39cfb7b936ae"), looks := false }, kinds := [], alts := [], laidByText := true, laidKinds := [.data], laidTests := true, laidLooks := .later }
def TreeLeadsUptoCardSaid : Prop := Claim7.holds Tryd.pinned (.plain (OpenSpec.upto treeLeadsSpec)) treeLeadsUptoCard

/-- THE SECOND FORM's CARD OF 'almagestlaw15.TreeOrder'. -/
def treeOrderUptoCard : Claim7 := { stood := { row := treeOrderUptoRow, standIns := [], harness := (true, "fd4bd480f7f2f7789aa3dc34f123cc51b3ec3820e9a5033697dc39cfb7b936ae"), looks := false }, kinds := [], alts := [], laidByText := true, laidKinds := [.data], laidTests := true, laidLooks := .later }
def TreeOrderUptoCardSaid : Prop := Claim7.holds Tryd.pinned (.plain (OpenSpec.upto treeOrderSpec)) treeOrderUptoCard

/-- THE SECOND FORM's CARD OF 'almagestlaw15.TreeAlone'. -/
def treeAloneUptoCard : Claim7 := { stood := { row := treeAloneUptoRow, standIns := [], harness := (true, "fd4bd480f7f2f7789aa3dc34f123cc51b3ec3820e9a5033697dc39cfb7b936ae"), looks := false }, kinds := [], alts := [], laidByText := true, laidKinds := [.data], laidTests := true, laidLooks := .later }
def TreeAloneUptoCardSaid : Prop := Claim7.holds Tryd.pinned (.plain (OpenSpec.upto treeAloneSpec)) treeAloneUptoCard
end Rows
end Go.Proofs.YtpebadhknpohkaaDoor
