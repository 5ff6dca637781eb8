/-
  DERIVED. GIVEN WITH THE SEED: THE CARDS: each row of YtienaogmljlmlaaGreatDoorRows.lean that lists a variable, with what it lists TIED to the program's text (the seventh form; the later family's looks); each row that meets fmt, with fmt's text TOLD by the authors' own Lean function (tested against real Go, not proved from fmt's source: count such statements apart). THE CARD IS WHAT COUNTS. Prove the row's statement (the work); the ties are given (YtienaogmljlmlaaGreatDoorTie.lean); close each card by the builder's one call (the guide's Derived/Test/ToyasCard.lean, 'card_holds'). Laid BY PROGRAM, IN A SANDBOX (cutbox-door.mjs). By AI agents, Wed Nov 11 2026. No macro, syntax, notation, axiom, sorry.
-/
import Derived.Test.YtienaogmljlmlaaGreatDoorRows
import GoSem.ClaimSeven
namespace Go.Proofs.YtienaogmljlmlaaGreatDoor
namespace Rows

/-- THE TIED CARD OF 'edenlaw03.WordAll'. -/
def wordAllCard : Claim7 := { stood := { row := wordAllRow, standIns := [], harness := (true, "811993b2a7d1394c0e85755da495dce1df4b93af4cd420608e3b6b709abedf1c"), looks := true }, kinds := [], alts := [], laidByText := true, laidKinds := [.handle, .sentinel, .sentinel, .sentinel, .sentinel, .sentinel, .sentinel, .sentinel, .sentinel, .sentinel, .sentinel, .sentinel, .sentinel], laidTests := true, laidLooks := .later }
def WordAllCardSaid : Prop := Claim7.holds Tryz.pinned (.plain (OpenSpec.ofChange wordAllSpec)) wordAllCard

/-- THE TIED CARD OF 'edenlaw04.RuleTexts'. -/
def ruleTextsCard : Claim7 := { stood := { row := ruleTextsRow, standIns := [], harness := (true, "811993b2a7d1394c0e85755da495dce1df4b93af4cd420608e3b6b709abedf1c"), looks := true }, kinds := [], alts := [], laidByText := true, laidKinds := [.data, .data, .data, .handle, .sentinel, .sentinel, .sentinel, .sentinel, .sentinel, .sentinel, .sentinel, .sentinel, .sentinel, .sentinel, .sentinel, .sentinel], laidTests := true, laidLooks := .later }
def RuleTextsCardSaid : Prop := Claim7.holds Tryz.pinned (.plain (OpenSpec.ofChange ruleTextsSpec)) ruleTextsCard

/-- THE TIED CARD OF 'edenlaw05.FormsAll'. -/
def formsAllCard : Claim7 := { stood := { row := formsAllRow, standIns := [], harness := (true, "811993b2a7d1394c0e85755da495dce1df4b93af4cd420608e3b6b709abedf1c"), looks := true }, kinds := [], alts := [], laidByText := true, laidKinds := [.data, .data, .data, .handle, .sentinel, .sentinel, .sentinel, .sentinel, .sentinel, .sentinel, .sentinel, .sentinel, .sentinel, .sentinel, .sentinel, .sentinel], laidTests := true, laidLooks := .later }
def FormsAllCardSaid : Prop := Claim7.holds Tryz.pinned (.plain (OpenSpec.ofChange formsAllSpec)) formsAllCard

/-- THE TIED CARD OF 'edenlaw05.FormsSames'. -/
def formsSamesCard : Claim7 := { stood := { row := formsSamesRow, standIns := [], harness := (true, "811993b2a7d1394c0e85755da495dce1df4b93af4cd420608e3b6b709abedf1c"), looks := true }, kinds := [], alts := [], laidByText := true, laidKinds := [.data, .data, .data, .handle, .sentinel, .sentinel, .sentinel, .sentinel, .sentinel, .sentinel, .sentinel, .sentinel, .sentinel, .sentinel, .sentinel, .sentinel], laidTests := true, laidLooks := .later }
def FormsSamesCardSaid : Prop := Claim7.holds Tryz.pinned (.plain (OpenSpec.ofChange formsSamesSpec)) formsSamesCard

/-- THE SECOND FORM's CARD OF 'edenlaw03.WordAll'. -/
def wordAllUptoCard : Claim7 := { stood := { row := wordAllUptoRow, standIns := [], harness := (true, "811993b2a7d1394c0e85755da495dce1df4b93af4cd420608e3b6b709abedf1c"), looks := true }, kinds := [], alts := [], laidByText := true, laidKinds := [.handle, .sentinel, .sentinel, .sentinel, .sentinel, .sentinel, .sentinel, .sentinel, .sentinel, .sentinel, .sentinel, .sentinel, .sentinel], laidTests := true, laidLooks := .later }
def WordAllUptoCardSaid : Prop := Claim7.holds Tryz.pinned (.plain (OpenSpec.upto wordAllSpec)) wordAllUptoCard

/-- THE SECOND FORM's CARD OF 'edenlaw04.RuleTexts'. -/
def ruleTextsUptoCard : Claim7 := { stood := { row := ruleTextsUptoRow, standIns := [], harness := (true, "811993b2a7d1394c0e85755da495dce1df4b93af4cd420608e3b6b709abedf1c"), looks := true }, kinds := [], alts := [], laidByText := true, laidKinds := [.data, .data, .data, .handle, .sentinel, .sentinel, .sentinel, .sentinel, .sentinel, .sentinel, .sentinel, .sentinel, .sentinel, .sentinel, .sentinel, .sentinel], laidTests := true, laidLooks := .later }
def RuleTextsUptoCardSaid : Prop := Claim7.holds Tryz.pinned (.plain (OpenSpec.upto ruleTextsSpec)) ruleTextsUptoCard

/-- THE SECOND FORM's CARD OF 'edenlaw05.FormsAll'. -/
def formsAllUptoCard : Claim7 := { stood := { row := formsAllUptoRow, standIns := [], harness := (true, "811993b2a7d1394c0e85755da495dce1df4b93af4cd420608e3b6b709abedf1c"), looks := true }, kinds := [], alts := [], laidByText := true, laidKinds := [.data, .data, .data, .handle, .sentinel, .sentinel, .sentinel, .sentinel, .sentinel, .sentinel, .sentinel, .sentinel, .sentinel, .sentinel, .sentinel, .sentinel], laidTests := true, laidLooks := .later }
def FormsAllUptoCardSaid : Prop := Claim7.holds Tryz.pinned (.plain (OpenSpec.upto formsAllSpec)) formsAllUptoCard

/-- THE SECOND FORM's CARD OF 'edenlaw05.FormsSames'. -/
def formsSamesUptoCard : Claim7 := { stood := { row := formsSamesUptoRow, standIns := [], harness := (true, "811993b2a7d1394c0e85755da495dce1df4b93af4cd420608e3b6b709abedf1c"), looks := true }, kinds := [], alts := [], laidByText := true, laidKinds := [.data, .data, .data, .handle, .sentinel, .sentinel, .sentinel, .sentinel, .sentinel, .sentinel, .sentinel, .sentinel, .sentinel, .sentinel, .sentinel, .sentinel], laidTests := true, laidLooks := .later }
def FormsSamesUptoCardSaid : Prop := Claim7.holds Tryz.pinned (.plain (OpenSpec.upto formsSamesSpec)) formsSamesUptoCard
end Rows
end Go.Proofs.YtienaogmljlmlaaGreatDoor
