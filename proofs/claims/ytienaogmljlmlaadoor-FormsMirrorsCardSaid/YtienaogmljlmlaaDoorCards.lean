/-
  DERIVED. GIVEN WITH THE SEED: THE CARDS: each row of YtienaogmljlmlaaDoorRows.lean that lists a variable, with what it lists TIED to the program's text (the seventh form; the later family's looks); each row that meets fmt, with fmt's text TOLD by the authors' own Lean function (tested against real Go, not proved from fmt's source: count such statements apart). THE CARD IS WHAT COUNTS. Prove the row's statement (the work); the ties are given (YtienaogmljlmlaaDoorTie.lean); close each card by the builder's one call (the guide's Derived/Test/ToyasCard.lean, 'card_holds'). Laid BY PROGRAM, IN A SANDBOX (cutbox-door.mjs). By AI agents, Wed Nov 11 2026. No macro, syntax, notation, axiom, sorry.
-/
import Derived.Test.YtienaogmljlmlaaDoorRows
import GoSem.ClaimSeven
namespace Go.Proofs.YtienaogmljlmlaaDoor
namespace Rows

/-- THE TIED CARD OF 'edenlaw05.FormsMirrors'. -/
def formsMirrorsCard : Claim7 := { stood := { row := formsMirrorsRow, standIns := [], harness := (true, "4a35f430e3fe6b4ff09bdb0976deb2dd3e3dbd4627b12742b5c0b500e86f748f"), looks := false }, kinds := [], alts := [], laidByText := true, laidKinds := [.data, .data, .data, .sentinel, .sentinel, .sentinel, .sentinel, .sentinel, .sentinel, .sentinel, .sentinel, .sentinel, .sentinel, .sentinel, .sentinel], laidTests := true, laidLooks := .later }
def FormsMirrorsCardSaid : Prop := Claim7.holds Tryd.pinned (.plain (OpenSpec.ofChange formsMirrorsSpec)) formsMirrorsCard

/-- THE TIED CARD OF 'edenlaw05.FormsComposes'. -/
def formsComposesCard : Claim7 := { stood := { row := formsComposesRow, standIns := [], harness := (true, "4a35f430e3fe6b4ff09bdb0976deb2dd3e3dbd4627b12742b5c0b500e86f748f"), looks := false }, kinds := [], alts := [], laidByText := true, laidKinds := [.data, .data, .data, .sentinel, .sentinel, .sentinel, .sentinel, .sentinel, .sentinel, .sentinel, .sentinel, .sentinel, .sentinel, .sentinel, .sentinel], laidTests := true, laidLooks := .later }
def FormsComposesCardSaid : Prop := Claim7.holds Tryd.pinned (.plain (OpenSpec.ofChange formsComposesSpec)) formsComposesCard

/-- THE TIED CARD OF 'edenlaw05.FormsPowers'. -/
def formsPowersCard : Claim7 := { stood := { row := formsPowersRow, standIns := [], harness := (true, "4a35f430e3fe6b4ff09bdb0976deb2dd3e3dbd4627b12742b5c0b500e86f748f"), looks := false }, kinds := [], alts := [], laidByText := true, laidKinds := [.data, .data, .data, .sentinel, .sentinel, .sentinel, .sentinel, .sentinel, .sentinel, .sentinel, .sentinel, .sentinel, .sentinel, .sentinel, .sentinel], laidTests := true, laidLooks := .later }
def FormsPowersCardSaid : Prop := Claim7.holds Tryd.pinned (.plain (OpenSpec.ofChange formsPowersSpec)) formsPowersCard

/-- THE TIED CARD OF 'edenlaw05.FormsKeeps'. -/
def formsKeepsCard : Claim7 := { stood := { row := formsKeepsRow, standIns := [], harness := (true, "4a35f430e3fe6b4ff09bdb0976deb2dd3e3dbd4627b12742b5c0b500e86f748f"), looks := false }, kinds := [], alts := [], laidByText := true, laidKinds := [.data, .data, .data, .sentinel, .sentinel, .sentinel, .sentinel, .sentinel, .sentinel, .sentinel, .sentinel, .sentinel, .sentinel, .sentinel, .sentinel], laidTests := true, laidLooks := .later }
def FormsKeepsCardSaid : Prop := Claim7.holds Tryd.pinned (.plain (OpenSpec.ofChange formsKeepsSpec)) formsKeepsCard

/-- THE SECOND FORM's CARD OF 'edenlaw05.FormsMirrors'. -/
def formsMirrorsUptoCard : Claim7 := { stood := { row := formsMirrorsUptoRow, standIns := [], harness := (true, "4a35f430e3fe6b4ff09bdb0976deb2dd3e3dbd4627b12742b5c0b500e86f748f"), looks := false }, kinds := [], alts := [], laidByText := true, laidKinds := [.data, .data, .data, .sentinel, .sentinel, .sentinel, .sentinel, .sentinel, .sentinel, .sentinel, .sentinel, .sentinel, .sentinel, .sentinel, .sentinel], laidTests := true, laidLooks := .later }
def FormsMirrorsUptoCardSaid : Prop := Claim7.holds Tryd.pinned (.plain (OpenSpec.upto formsMirrorsSpec)) formsMirrorsUptoCard

/-- THE SECOND FORM's CARD OF 'edenlaw05.FormsComposes'. -/
def formsComposesUptoCard : Claim7 := { stood := { row := formsComposesUptoRow, standIns := [], harness := (true, "4a35f430e3fe6b4ff09bdb0976deb2dd3e3dbd4627b12742b5c0b500e86f748f"), looks := false }, kinds := [], alts := [], laidByText := true, laidKinds := [.data, .data, .data, .sentinel, .sentinel, .sentinel, .sentinel, .sentinel, .sentinel, .sentinel, .sentinel, .sentinel, .sentinel, .sentinel, .sentinel], laidTests := true, laidLooks := .later }
def FormsComposesUptoCardSaid : Prop := Claim7.holds Tryd.pinned (.plain (OpenSpec.upto formsComposesSpec)) formsComposesUptoCard

/-- THE SECOND FORM's CARD OF 'edenlaw05.FormsPowers'. -/
def formsPowersUptoCard : Claim7 := { stood := { row := formsPowersUptoRow, standIns := [], harness := (true, "4a35f430e3fe6b4ff09bdb0976deb2dd3e3dbd4627b12742b5c0b500e86f748f"), looks := false }, kinds := [], alts := [], laidByText := true, laidKinds := [.data, .data, .data, .sentinel, .sentinel, .sentinel, .sentinel, .sentinel, .sentinel, .sentinel, .sentinel, .sentinel, .sentinel, .sentinel, .sentinel], laidTests := true, laidLooks := .later }
def FormsPowersUptoCardSaid : Prop := Claim7.holds Tryd.pinned (.plain (OpenSpec.upto formsPowersSpec)) formsPowersUptoCard

/-- THE SECOND FORM's CARD OF 'edenlaw05.FormsKeeps'. -/
def formsKeepsUptoCard : Claim7 := { stood := { row := formsKeepsUptoRow, standIns := [], harness := (true, "4a35f430e3fe6b4ff09bdb0976deb2dd3e3dbd4627b12742b5c0b500e86f748f"), looks := false }, kinds := [], alts := [], laidByText := true, laidKinds := [.data, .data, .data, .sentinel, .sentinel, .sentinel, .sentinel, .sentinel, .sentinel, .sentinel, .sentinel, .sentinel, .sentinel, .sentinel, .sentinel], laidTests := true, laidLooks := .later }
def FormsKeepsUptoCardSaid : Prop := Claim7.holds Tryd.pinned (.plain (OpenSpec.upto formsKeepsSpec)) formsKeepsUptoCard
end Rows
end Go.Proofs.YtienaogmljlmlaaDoor
