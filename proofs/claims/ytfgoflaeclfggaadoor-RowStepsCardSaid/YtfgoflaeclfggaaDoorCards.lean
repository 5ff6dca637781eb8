/-
  DERIVED. GIVEN WITH THE SEED: THE CARDS: each row of YtfgoflaeclfggaaDoorRows.lean that lists a variable, with what it lists TIED to the program's text (the seventh form; the later family's looks); each row that meets fmt, with fmt's text TOLD by the authors' own Lean function (tested against real Go, not proved from fmt's source: count such statements apart). THE CARD IS WHAT COUNTS. Prove the row's statement (the work); the ties are given (YtfgoflaeclfggaaDoorTie.lean); close each card by the builder's one call (the guide's Derived/Test/ToyasCard.lean, 'card_holds'). Laid BY PROGRAM, IN A SANDBOX (cutbox-door.mjs). By AI agents, Wed Nov 11 2026. No macro, syntax, notation, axiom, sorry.
-/
import Derived.Test.YtfgoflaeclfggaaDoorRows
import GoSem.ClaimSeven
namespace Go.Proofs.YtfgoflaeclfggaaDoor
namespace Rows

/-- THE TIED CARD OF 'edenlaw07.RowCells'. -/
def rowCellsCard : Claim7 := { stood := { row := rowCellsRow, standIns := [], harness := (true, "162c3b6c8b38c809bf2bfe6c3900aeaa06f6404406f8020a318ab86ee6a67fae"), looks := true }, kinds := [], alts := [], laidByText := true, laidKinds := [.handle, .sentinel, .sentinel, .sentinel, .sentinel, .sentinel, .sentinel, .sentinel, .sentinel, .sentinel, .sentinel, .sentinel, .sentinel], laidTests := true, laidLooks := .later }
def RowCellsCardSaid : Prop := Claim7.holds Tryd.pinned (.plain (OpenSpec.ofChange rowCellsSpec)) rowCellsCard

/-- THE TIED CARD OF 'edenlaw07.RowSames'. -/
def rowSamesCard : Claim7 := { stood := { row := rowSamesRow, standIns := [], harness := (true, "162c3b6c8b38c809bf2bfe6c3900aeaa06f6404406f8020a318ab86ee6a67fae"), looks := true }, kinds := [], alts := [], laidByText := true, laidKinds := [.handle, .sentinel, .sentinel, .sentinel, .sentinel, .sentinel, .sentinel, .sentinel, .sentinel, .sentinel, .sentinel, .sentinel, .sentinel], laidTests := true, laidLooks := .later }
def RowSamesCardSaid : Prop := Claim7.holds Tryd.pinned (.plain (OpenSpec.ofChange rowSamesSpec)) rowSamesCard

/-- THE TIED CARD OF 'edenlaw07.RowSteps'. -/
def rowStepsCard : Claim7 := { stood := { row := rowStepsRow, standIns := [], harness := (true, "162c3b6c8b38c809bf2bfe6c3900aeaa06f6404406f8020a318ab86ee6a67fae"), looks := true }, kinds := [], alts := [], laidByText := true, laidKinds := [.handle, .sentinel, .sentinel, .sentinel, .sentinel, .sentinel, .sentinel, .sentinel, .sentinel, .sentinel, .sentinel, .sentinel, .sentinel], laidTests := true, laidLooks := .later }
def RowStepsCardSaid : Prop := Claim7.holds Tryd.pinned (.plain (OpenSpec.ofChange rowStepsSpec)) rowStepsCard

/-- THE TIED CARD OF 'edenlaw07.RowWindows'. -/
def rowWindowsCard : Claim7 := { stood := { row := rowWindowsRow, standIns := [], harness := (true, "162c3b6c8b38c809bf2bfe6c3900aeaa06f6404406f8020a318ab86ee6a67fae"), looks := true }, kinds := [], alts := [], laidByText := true, laidKinds := [.sentinel, .sentinel, .sentinel, .sentinel, .sentinel, .sentinel, .sentinel, .sentinel, .sentinel, .sentinel, .sentinel, .sentinel], laidTests := true, laidLooks := .later }
def RowWindowsCardSaid : Prop := Claim7.holds Tryd.pinned (.plain (OpenSpec.ofChange rowWindowsSpec)) rowWindowsCard

/-- THE TIED CARD OF 'edenlaw07.RowRings'. -/
def rowRingsCard : Claim7 := { stood := { row := rowRingsRow, standIns := [], harness := (true, "162c3b6c8b38c809bf2bfe6c3900aeaa06f6404406f8020a318ab86ee6a67fae"), looks := true }, kinds := [], alts := [], laidByText := true, laidKinds := [.handle, .sentinel, .sentinel, .sentinel, .sentinel, .sentinel, .sentinel, .sentinel, .sentinel, .sentinel, .sentinel, .sentinel, .sentinel], laidTests := true, laidLooks := .later }
def RowRingsCardSaid : Prop := Claim7.holds Tryd.pinned (.plain (OpenSpec.ofChange rowRingsSpec)) rowRingsCard

/-- THE TIED CARD OF 'edenlaw07.RowKeeps'. -/
def rowKeepsCard : Claim7 := { stood := { row := rowKeepsRow, standIns := [], harness := (true, "162c3b6c8b38c809bf2bfe6c3900aeaa06f6404406f8020a318ab86ee6a67fae"), looks := true }, kinds := [], alts := [], laidByText := true, laidKinds := [.sentinel, .sentinel, .sentinel, .sentinel, .sentinel, .sentinel, .sentinel, .sentinel, .sentinel, .sentinel, .sentinel, .sentinel], laidTests := true, laidLooks := .later }
def RowKeepsCardSaid : Prop := Claim7.holds Tryd.pinned (.plain (OpenSpec.ofChange rowKeepsSpec)) rowKeepsCard

/-- THE SECOND FORM's CARD OF 'edenlaw07.RowCells'. -/
def rowCellsUptoCard : Claim7 := { stood := { row := rowCellsUptoRow, standIns := [], harness := (true, "162c3b6c8b38c809bf2bfe6c3900aeaa06f6404406f8020a318ab86ee6a67fae"), looks := true }, kinds := [], alts := [], laidByText := true, laidKinds := [.handle, .sentinel, .sentinel, .sentinel, .sentinel, .sentinel, .sentinel, .sentinel, .sentinel, .sentinel, .sentinel, .sentinel, .sentinel], laidTests := true, laidLooks := .later }
def RowCellsUptoCardSaid : Prop := Claim7.holds Tryd.pinned (.plain (OpenSpec.upto rowCellsSpec)) rowCellsUptoCard

/-- THE SECOND FORM's CARD OF 'edenlaw07.RowSames'. -/
def rowSamesUptoCard : Claim7 := { stood := { row := rowSamesUptoRow, standIns := [], harness := (true, "162c3b6c8b38c809bf2bfe6c3900aeaa06f6404406f8020a318ab86ee6a67fae"), looks := true }, kinds := [], alts := [], laidByText := true, laidKinds := [.handle, .sentinel, .sentinel, .sentinel, .sentinel, .sentinel, .sentinel, .sentinel, .sentinel, .sentinel, .sentinel, .sentinel, .sentinel], laidTests := true, laidLooks := .later }
def RowSamesUptoCardSaid : Prop := Claim7.holds Tryd.pinned (.plain (OpenSpec.upto rowSamesSpec)) rowSamesUptoCard

/-- THE SECOND FORM's CARD OF 'edenlaw07.RowSteps'. -/
def rowStepsUptoCard : Claim7 := { stood := { row := rowStepsUptoRow, standIns := [], harness := (true, "162c3b6c8b38c809bf2bfe6c3900aeaa06f6404406f8020a318ab86ee6a67fae"), looks := true }, kinds := [], alts := [], laidByText := true, laidKinds := [.handle, .sentinel, .sentinel, .sentinel, .sentinel, .sentinel, .sentinel, .sentinel, .sentinel, .sentinel, .sentinel, .sentinel, .sentinel], laidTests := true, laidLooks := .later }
def RowStepsUptoCardSaid : Prop := Claim7.holds Tryd.pinned (.plain (OpenSpec.upto rowStepsSpec)) rowStepsUptoCard

/-- THE SECOND FORM's CARD OF 'edenlaw07.RowWindows'. -/
def rowWindowsUptoCard : Claim7 := { stood := { row := rowWindowsUptoRow, standIns := [], harness := (true, "162c3b6c8b38c809bf2bfe6c3900aeaa06f6404406f8020a318ab86ee6a67fae"), looks := true }, kinds := [], alts := [], laidByText := true, laidKinds := [.sentinel, .sentinel, .sentinel, .sentinel, .sentinel, .sentinel, .sentinel, .sentinel, .sentinel, .sentinel, .sentinel, .sentinel], laidTests := true, laidLooks := .later }
def RowWindowsUptoCardSaid : Prop := Claim7.holds Tryd.pinned (.plain (OpenSpec.upto rowWindowsSpec)) rowWindowsUptoCard

/-- THE SECOND FORM's CARD OF 'edenlaw07.RowRings'. -/
def rowRingsUptoCard : Claim7 := { stood := { row := rowRingsUptoRow, standIns := [], harness := (true, "162c3b6c8b38c809bf2bfe6c3900aeaa06f6404406f8020a318ab86ee6a67fae"), looks := true }, kinds := [], alts := [], laidByText := true, laidKinds := [.handle, .sentinel, .sentinel, .sentinel, .sentinel, .sentinel, .sentinel, .sentinel, .sentinel, .sentinel, .sentinel, .sentinel, .sentinel], laidTests := true, laidLooks := .later }
def RowRingsUptoCardSaid : Prop := Claim7.holds Tryd.pinned (.plain (OpenSpec.upto rowRingsSpec)) rowRingsUptoCard

/-- THE SECOND FORM's CARD OF 'edenlaw07.RowKeeps'. -/
def rowKeepsUptoCard : Claim7 := { stood := { row := rowKeepsUptoRow, standIns := [], harness := (true, "162c3b6c8b38c809bf2bfe6c3900aeaa06f6404406f8020a318ab86ee6a67fae"), looks := true }, kinds := [], alts := [], laidByText := true, laidKinds := [.sentinel, .sentinel, .sentinel, .sentinel, .sentinel, .sentinel, .sentinel, .sentinel, .sentinel, .sentinel, .sentinel, .sentinel], laidTests := true, laidLooks := .later }
def RowKeepsUptoCardSaid : Prop := Claim7.holds Tryd.pinned (.plain (OpenSpec.upto rowKeepsSpec)) rowKeepsUptoCard
end Rows
end Go.Proofs.YtfgoflaeclfggaaDoor
