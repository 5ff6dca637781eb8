/-
  DERIVED. GIVEN WITH THE SEED: THE CARDS: each row of YtfgoflaeclfggaaGreatDoorRows.lean that lists a variable, with what it lists TIED to the program's text (the seventh form; the later family's looks); each row that meets fmt, with fmt's text TOLD by the authors' own Lean function (tested against real Go, not proved from fmt's source: count such statements apart). THE CARD IS WHAT COUNTS. Prove the row's statement (the work); the ties are given (YtfgoflaeclfggaaGreatDoorTie.lean); close each card by the builder's one call (the guide's Derived/Test/ToyasCard.lean, 'card_holds'). Laid BY PROGRAM, IN A SANDBOX (cutbox-door.mjs). By AI agents, Wed Nov 11 2026. No macro, syntax, notation, axiom, sorry.
-/
import Derived.Test.YtfgoflaeclfggaaGreatDoorRows
import GoSem.ClaimSeven
namespace Go.Proofs.YtfgoflaeclfggaaGreatDoor
namespace Rows

/-- THE TIED CARD OF 'edenlaw03.WordAll'. -/
def wordAllCard : Claim7 := { stood := { row := wordAllRow, standIns := [], harness := (true, "7ff1482d9dea2239091d9f95ec8c8370ffe92a58658c4b097ce7d1a3ed07f24e"), looks := true }, kinds := [], alts := [], laidByText := true, laidKinds := [.handle, .sentinel, .sentinel, .sentinel, .sentinel, .sentinel, .sentinel, .sentinel, .sentinel, .sentinel, .sentinel, .sentinel, .sentinel], laidTests := true, laidLooks := .later }
def WordAllCardSaid : Prop := Claim7.holds Tryz.pinned (.plain (OpenSpec.ofChange wordAllSpec)) wordAllCard

/-- THE TIED CARD OF 'edenlaw05.FormsAll'. -/
def formsAllCard : Claim7 := { stood := { row := formsAllRow, standIns := [], harness := (true, "7ff1482d9dea2239091d9f95ec8c8370ffe92a58658c4b097ce7d1a3ed07f24e"), looks := true }, kinds := [], alts := [], laidByText := true, laidKinds := [.data, .data, .data, .handle, .sentinel, .sentinel, .sentinel, .sentinel, .sentinel, .sentinel, .sentinel, .sentinel, .sentinel, .sentinel, .sentinel, .sentinel], laidTests := true, laidLooks := .later }
def FormsAllCardSaid : Prop := Claim7.holds Tryz.pinned (.plain (OpenSpec.ofChange formsAllSpec)) formsAllCard

/-- THE SECOND FORM's CARD OF 'edenlaw03.WordAll'. -/
def wordAllUptoCard : Claim7 := { stood := { row := wordAllUptoRow, standIns := [], harness := (true, "7ff1482d9dea2239091d9f95ec8c8370ffe92a58658c4b097ce7d1a3ed07f24e"), looks := true }, kinds := [], alts := [], laidByText := true, laidKinds := [.handle, .sentinel, .sentinel, .sentinel, .sentinel, .sentinel, .sentinel, .sentinel, .sentinel, .sentinel, .sentinel, .sentinel, .sentinel], laidTests := true, laidLooks := .later }
def WordAllUptoCardSaid : Prop := Claim7.holds Tryz.pinned (.plain (OpenSpec.upto wordAllSpec)) wordAllUptoCard

/-- THE SECOND FORM's CARD OF 'edenlaw05.FormsAll'. -/
def formsAllUptoCard : Claim7 := { stood := { row := formsAllUptoRow, standIns := [], harness := (true, "7ff1482d9dea2239091d9f95ec8c8370ffe92a58658c4b097ce7d1a3ed07f24e"), looks := true }, kinds := [], alts := [], laidByText := true, laidKinds := [.data, .data, .data, .handle, .sentinel, .sentinel, .sentinel, .sentinel, .sentinel, .sentinel, .sentinel, .sentinel, .sentinel, .sentinel, .sentinel, .sentinel], laidTests := true, laidLooks := .later }
def FormsAllUptoCardSaid : Prop := Claim7.holds Tryz.pinned (.plain (OpenSpec.upto formsAllSpec)) formsAllUptoCard
end Rows
end Go.Proofs.YtfgoflaeclfggaaGreatDoor
