/-
  DERIVED. GIVEN WITH THE SEED: THE CARDS: each row of YthafjbegkifekaaDoorRows.lean that lists a variable, with what it lists TIED to the program's text (the seventh form; the later family's looks); each row that meets fmt, with fmt's text TOLD by the authors' own Lean function (tested against real Go, not proved from fmt's source: count such statements apart). THE CARD IS WHAT COUNTS. Prove the row's statement (the work); the ties are given (YthafjbegkifekaaDoorTie.lean); close each card by the builder's one call (the guide's Derived/Test/ToyasCard.lean, 'card_holds'). Laid BY PROGRAM, IN A SANDBOX (cutbox-door.mjs). By AI agents, Wed Nov 11 2026. No macro, syntax, notation, axiom, sorry.
-/
import Derived.Test.YthafjbegkifekaaDoorRows
import GoSem.ClaimSeven
namespace Go.Proofs.YthafjbegkifekaaDoor
namespace Rows

/-- THE TIED CARD OF 'edenlaw04.RuleChecks'. -/
def ruleChecksCard : Claim7 := { stood := { row := ruleChecksRow, standIns := [], harness := (true, "60baeb008a707737dc35ea718ca1409d46123c053a68a8c5f31db89d26b351ae"), looks := true }, kinds := [], alts := [], laidByText := true, laidKinds := [.handle, .sentinel, .sentinel, .sentinel, .sentinel, .sentinel, .sentinel, .sentinel, .sentinel, .sentinel, .sentinel, .sentinel, .sentinel], laidTests := true, laidLooks := .later }
def RuleChecksCardSaid : Prop := Claim7.holds Tryd.pinned (.plain (OpenSpec.ofChange ruleChecksSpec)) ruleChecksCard

/-- THE TIED CARD OF 'edenlaw04.RuleSteps'. -/
def ruleStepsCard : Claim7 := { stood := { row := ruleStepsRow, standIns := [], harness := (true, "60baeb008a707737dc35ea718ca1409d46123c053a68a8c5f31db89d26b351ae"), looks := true }, kinds := [], alts := [], laidByText := true, laidKinds := [.handle, .sentinel, .sentinel, .sentinel, .sentinel, .sentinel, .sentinel, .sentinel, .sentinel, .sentinel, .sentinel, .sentinel, .sentinel], laidTests := true, laidLooks := .later }
def RuleStepsCardSaid : Prop := Claim7.holds Tryd.pinned (.plain (OpenSpec.ofChange ruleStepsSpec)) ruleStepsCard

/-- THE TIED CARD OF 'edenlaw04.RulePieces'. -/
def rulePiecesCard : Claim7 := { stood := { row := rulePiecesRow, standIns := [], harness := (true, "60baeb008a707737dc35ea718ca1409d46123c053a68a8c5f31db89d26b351ae"), looks := true }, kinds := [], alts := [], laidByText := true, laidKinds := [.sentinel, .sentinel, .sentinel, .sentinel, .sentinel, .sentinel, .sentinel, .sentinel, .sentinel, .sentinel, .sentinel, .sentinel], laidTests := true, laidLooks := .later }
def RulePiecesCardSaid : Prop := Claim7.holds Tryd.pinned (.plain (OpenSpec.ofChange rulePiecesSpec)) rulePiecesCard

/-- THE TIED CARD OF 'edenlaw04.RuleCodes'. -/
def ruleCodesCard : Claim7 := { stood := { row := ruleCodesRow, standIns := [], harness := (true, "60baeb008a707737dc35ea718ca1409d46123c053a68a8c5f31db89d26b351ae"), looks := true }, kinds := [], alts := [], laidByText := true, laidKinds := [.handle, .sentinel, .sentinel, .sentinel, .sentinel, .sentinel, .sentinel, .sentinel, .sentinel, .sentinel, .sentinel, .sentinel, .sentinel], laidTests := true, laidLooks := .later }
def RuleCodesCardSaid : Prop := Claim7.holds Tryd.pinned (.plain (OpenSpec.ofChange ruleCodesSpec)) ruleCodesCard

/-- THE TIED CARD OF 'edenlaw04.RuleSums'. -/
def ruleSumsCard : Claim7 := { stood := { row := ruleSumsRow, standIns := [], harness := (true, "60baeb008a707737dc35ea718ca1409d46123c053a68a8c5f31db89d26b351ae"), looks := true }, kinds := [], alts := [], laidByText := true, laidKinds := [.sentinel, .sentinel, .sentinel, .sentinel, .sentinel, .sentinel, .sentinel, .sentinel, .sentinel, .sentinel, .sentinel, .sentinel], laidTests := true, laidLooks := .later }
def RuleSumsCardSaid : Prop := Claim7.holds Tryd.pinned (.plain (OpenSpec.ofChange ruleSumsSpec)) ruleSumsCard

/-- THE TIED CARD OF 'edenlaw04.RuleKeeps'. -/
def ruleKeepsCard : Claim7 := { stood := { row := ruleKeepsRow, standIns := [], harness := (true, "60baeb008a707737dc35ea718ca1409d46123c053a68a8c5f31db89d26b351ae"), looks := true }, kinds := [], alts := [], laidByText := true, laidKinds := [.sentinel, .sentinel, .sentinel, .sentinel, .sentinel, .sentinel, .sentinel, .sentinel, .sentinel, .sentinel, .sentinel, .sentinel], laidTests := true, laidLooks := .later }
def RuleKeepsCardSaid : Prop := Claim7.holds Tryd.pinned (.plain (OpenSpec.ofChange ruleKeepsSpec)) ruleKeepsCard

/-- THE SECOND FORM's CARD OF 'edenlaw04.RuleChecks'. -/
def ruleChecksUptoCard : Claim7 := { stood := { row := ruleChecksUptoRow, standIns := [], harness := (true, "60baeb008a707737dc35ea718ca1409d46123c053a68a8c5f31db89d26b351ae"), looks := true }, kinds := [], alts := [], laidByText := true, laidKinds := [.handle, .sentinel, .sentinel, .sentinel, .sentinel, .sentinel, .sentinel, .sentinel, .sentinel, .sentinel, .sentinel, .sentinel, .sentinel], laidTests := true, laidLooks := .later }
def RuleChecksUptoCardSaid : Prop := Claim7.holds Tryd.pinned (.plain (OpenSpec.upto ruleChecksSpec)) ruleChecksUptoCard

/-- THE SECOND FORM's CARD OF 'edenlaw04.RuleSteps'. -/
def ruleStepsUptoCard : Claim7 := { stood := { row := ruleStepsUptoRow, standIns := [], harness := (true, "60baeb008a707737dc35ea718ca1409d46123c053a68a8c5f31db89d26b351ae"), looks := true }, kinds := [], alts := [], laidByText := true, laidKinds := [.handle, .sentinel, .sentinel, .sentinel, .sentinel, .sentinel, .sentinel, .sentinel, .sentinel, .sentinel, .sentinel, .sentinel, .sentinel], laidTests := true, laidLooks := .later }
def RuleStepsUptoCardSaid : Prop := Claim7.holds Tryd.pinned (.plain (OpenSpec.upto ruleStepsSpec)) ruleStepsUptoCard

/-- THE SECOND FORM's CARD OF 'edenlaw04.RulePieces'. -/
def rulePiecesUptoCard : Claim7 := { stood := { row := rulePiecesUptoRow, standIns := [], harness := (true, "60baeb008a707737dc35ea718ca1409d46123c053a68a8c5f31db89d26b351ae"), looks := true }, kinds := [], alts := [], laidByText := true, laidKinds := [.sentinel, .sentinel, .sentinel, .sentinel, .sentinel, .sentinel, .sentinel, .sentinel, .sentinel, .sentinel, .sentinel, .sentinel], laidTests := true, laidLooks := .later }
def RulePiecesUptoCardSaid : Prop := Claim7.holds Tryd.pinned (.plain (OpenSpec.upto rulePiecesSpec)) rulePiecesUptoCard

/-- THE SECOND FORM's CARD OF 'edenlaw04.RuleCodes'. -/
def ruleCodesUptoCard : Claim7 := { stood := { row := ruleCodesUptoRow, standIns := [], harness := (true, "60baeb008a707737dc35ea718ca1409d46123c053a68a8c5f31db89d26b351ae"), looks := true }, kinds := [], alts := [], laidByText := true, laidKinds := [.handle, .sentinel, .sentinel, .sentinel, .sentinel, .sentinel, .sentinel, .sentinel, .sentinel, .sentinel, .sentinel, .sentinel, .sentinel], laidTests := true, laidLooks := .later }
def RuleCodesUptoCardSaid : Prop := Claim7.holds Tryd.pinned (.plain (OpenSpec.upto ruleCodesSpec)) ruleCodesUptoCard

/-- THE SECOND FORM's CARD OF 'edenlaw04.RuleSums'. -/
def ruleSumsUptoCard : Claim7 := { stood := { row := ruleSumsUptoRow, standIns := [], harness := (true, "60baeb008a707737dc35ea718ca1409d46123c053a68a8c5f31db89d26b351ae"), looks := true }, kinds := [], alts := [], laidByText := true, laidKinds := [.sentinel, .sentinel, .sentinel, .sentinel, .sentinel, .sentinel, .sentinel, .sentinel, .sentinel, .sentinel, .sentinel, .sentinel], laidTests := true, laidLooks := .later }
def RuleSumsUptoCardSaid : Prop := Claim7.holds Tryd.pinned (.plain (OpenSpec.upto ruleSumsSpec)) ruleSumsUptoCard

/-- THE SECOND FORM's CARD OF 'edenlaw04.RuleKeeps'. -/
def ruleKeepsUptoCard : Claim7 := { stood := { row := ruleKeepsUptoRow, standIns := [], harness := (true, "60baeb008a707737dc35ea718ca1409d46123c053a68a8c5f31db89d26b351ae"), looks := true }, kinds := [], alts := [], laidByText := true, laidKinds := [.sentinel, .sentinel, .sentinel, .sentinel, .sentinel, .sentinel, .sentinel, .sentinel, .sentinel, .sentinel, .sentinel, .sentinel], laidTests := true, laidLooks := .later }
def RuleKeepsUptoCardSaid : Prop := Claim7.holds Tryd.pinned (.plain (OpenSpec.upto ruleKeepsSpec)) ruleKeepsUptoCard
end Rows
end Go.Proofs.YthafjbegkifekaaDoor
