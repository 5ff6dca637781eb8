/-
  DERIVED. GIVEN WITH THE SEED: THE CARDS: each row of YtmienemnjikgdaaDoorRows.lean that lists a variable, with what it lists TIED to the program's text (the seventh form; the later family's looks); each row that meets fmt, with fmt's text TOLD by the authors' own Lean function (tested against real Go, not proved from fmt's source: count such statements apart). THE CARD IS WHAT COUNTS. Prove the row's statement (the work); the ties are given (YtmienemnjikgdaaDoorTie.lean); close each card by the builder's one call (the guide's Derived/Test/ToyasCard.lean, 'card_holds'). Laid BY PROGRAM, IN A SANDBOX (cutbox-door.mjs). By AI agents, Wed Nov 11 2026. No macro, syntax, notation, axiom, sorry.
-/
import Derived.Test.YtmienemnjikgdaaDoorRows
import GoSem.ClaimSeven
namespace Go.Proofs.YtmienemnjikgdaaDoor
namespace Rows

/-- THE TIED CARD OF 'edenlaw08.OverEdges'. -/
def overEdgesCard : Claim7 := { stood := { row := overEdgesRow, standIns := [], harness := (true, "a6d3be38454275af5eb31ebb4fa98a5b44ba603e4518cc7d8b1730ece36bdf75"), looks := true }, kinds := [], alts := [], laidByText := true, laidKinds := [.handle, .sentinel, .sentinel, .sentinel, .sentinel, .sentinel, .sentinel, .sentinel, .sentinel, .sentinel, .sentinel, .sentinel, .sentinel], laidTests := true, laidLooks := .later }
def OverEdgesCardSaid : Prop := Claim7.holds Tryd.pinned (.plain (OpenSpec.ofChange overEdgesSpec)) overEdgesCard

/-- THE TIED CARD OF 'edenlaw08.OverPaths'. -/
def overPathsCard : Claim7 := { stood := { row := overPathsRow, standIns := [], harness := (true, "a6d3be38454275af5eb31ebb4fa98a5b44ba603e4518cc7d8b1730ece36bdf75"), looks := true }, kinds := [], alts := [], laidByText := true, laidKinds := [.handle, .sentinel, .sentinel, .sentinel, .sentinel, .sentinel, .sentinel, .sentinel, .sentinel, .sentinel, .sentinel, .sentinel, .sentinel], laidTests := true, laidLooks := .later }
def OverPathsCardSaid : Prop := Claim7.holds Tryd.pinned (.plain (OpenSpec.ofChange overPathsSpec)) overPathsCard

/-- THE TIED CARD OF 'edenlaw08.OverBefore'. -/
def overBeforeCard : Claim7 := { stood := { row := overBeforeRow, standIns := [], harness := (true, "a6d3be38454275af5eb31ebb4fa98a5b44ba603e4518cc7d8b1730ece36bdf75"), looks := true }, kinds := [], alts := [], laidByText := true, laidKinds := [.handle, .sentinel, .sentinel, .sentinel, .sentinel, .sentinel, .sentinel, .sentinel, .sentinel, .sentinel, .sentinel, .sentinel, .sentinel], laidTests := true, laidLooks := .later }
def OverBeforeCardSaid : Prop := Claim7.holds Tryd.pinned (.plain (OpenSpec.ofChange overBeforeSpec)) overBeforeCard

/-- THE TIED CARD OF 'edenlaw08.OverBack'. -/
def overBackCard : Claim7 := { stood := { row := overBackRow, standIns := [], harness := (true, "a6d3be38454275af5eb31ebb4fa98a5b44ba603e4518cc7d8b1730ece36bdf75"), looks := true }, kinds := [], alts := [], laidByText := true, laidKinds := [.sentinel, .sentinel, .sentinel, .sentinel, .sentinel, .sentinel, .sentinel, .sentinel, .sentinel, .sentinel, .sentinel, .sentinel], laidTests := true, laidLooks := .later }
def OverBackCardSaid : Prop := Claim7.holds Tryd.pinned (.plain (OpenSpec.ofChange overBackSpec)) overBackCard

/-- THE TIED CARD OF 'edenlaw08.OverKeeps'. -/
def overKeepsCard : Claim7 := { stood := { row := overKeepsRow, standIns := [], harness := (true, "a6d3be38454275af5eb31ebb4fa98a5b44ba603e4518cc7d8b1730ece36bdf75"), looks := true }, kinds := [], alts := [], laidByText := true, laidKinds := [.sentinel, .sentinel, .sentinel, .sentinel, .sentinel, .sentinel, .sentinel, .sentinel, .sentinel, .sentinel, .sentinel, .sentinel], laidTests := true, laidLooks := .later }
def OverKeepsCardSaid : Prop := Claim7.holds Tryd.pinned (.plain (OpenSpec.ofChange overKeepsSpec)) overKeepsCard

/-- THE SECOND FORM's CARD OF 'edenlaw08.OverEdges'. -/
def overEdgesUptoCard : Claim7 := { stood := { row := overEdgesUptoRow, standIns := [], harness := (true, "a6d3be38454275af5eb31ebb4fa98a5b44ba603e4518cc7d8b1730ece36bdf75"), looks := true }, kinds := [], alts := [], laidByText := true, laidKinds := [.handle, .sentinel, .sentinel, .sentinel, .sentinel, .sentinel, .sentinel, .sentinel, .sentinel, .sentinel, .sentinel, .sentinel, .sentinel], laidTests := true, laidLooks := .later }
def OverEdgesUptoCardSaid : Prop := Claim7.holds Tryd.pinned (.plain (OpenSpec.upto overEdgesSpec)) overEdgesUptoCard

/-- THE SECOND FORM's CARD OF 'edenlaw08.OverPaths'. -/
def overPathsUptoCard : Claim7 := { stood := { row := overPathsUptoRow, standIns := [], harness := (true, "a6d3be38454275af5eb31ebb4fa98a5b44ba603e4518cc7d8b1730ece36bdf75"), looks := true }, kinds := [], alts := [], laidByText := true, laidKinds := [.handle, .sentinel, .sentinel, .sentinel, .sentinel, .sentinel, .sentinel, .sentinel, .sentinel, .sentinel, .sentinel, .sentinel, .sentinel], laidTests := true, laidLooks := .later }
def OverPathsUptoCardSaid : Prop := Claim7.holds Tryd.pinned (.plain (OpenSpec.upto overPathsSpec)) overPathsUptoCard

/-- THE SECOND FORM's CARD OF 'edenlaw08.OverBefore'. -/
def overBeforeUptoCard : Claim7 := { stood := { row := overBeforeUptoRow, standIns := [], harness := (true, "a6d3be38454275af5eb31ebb4fa98a5b44ba603e4518cc7d8b1730ece36bdf75"), looks := true }, kinds := [], alts := [], laidByText := true, laidKinds := [.handle, .sentinel, .sentinel, .sentinel, .sentinel, .sentinel, .sentinel, .sentinel, .sentinel, .sentinel, .sentinel, .sentinel, .sentinel], laidTests := true, laidLooks := .later }
def OverBeforeUptoCardSaid : Prop := Claim7.holds Tryd.pinned (.plain (OpenSpec.upto overBeforeSpec)) overBeforeUptoCard

/-- THE SECOND FORM's CARD OF 'edenlaw08.OverBack'. -/
def overBackUptoCard : Claim7 := { stood := { row := overBackUptoRow, standIns := [], harness := (true, "a6d3be38454275af5eb31ebb4fa98a5b44ba603e4518cc7d8b1730ece36bdf75"), looks := true }, kinds := [], alts := [], laidByText := true, laidKinds := [.sentinel, .sentinel, .sentinel, .sentinel, .sentinel, .sentinel, .sentinel, .sentinel, .sentinel, .sentinel, .sentinel, .sentinel], laidTests := true, laidLooks := .later }
def OverBackUptoCardSaid : Prop := Claim7.holds Tryd.pinned (.plain (OpenSpec.upto overBackSpec)) overBackUptoCard

/-- THE SECOND FORM's CARD OF 'edenlaw08.OverKeeps'. -/
def overKeepsUptoCard : Claim7 := { stood := { row := overKeepsUptoRow, standIns := [], harness := (true, "a6d3be38454275af5eb31ebb4fa98a5b44ba603e4518cc7d8b1730ece36bdf75"), looks := true }, kinds := [], alts := [], laidByText := true, laidKinds := [.sentinel, .sentinel, .sentinel, .sentinel, .sentinel, .sentinel, .sentinel, .sentinel, .sentinel, .sentinel, .sentinel, .sentinel], laidTests := true, laidLooks := .later }
def OverKeepsUptoCardSaid : Prop := Claim7.holds Tryd.pinned (.plain (OpenSpec.upto overKeepsSpec)) overKeepsUptoCard
end Rows
end Go.Proofs.YtmienemnjikgdaaDoor
