/-
  DERIVED. GIVEN WITH THE SEED: THE CARDS: each row of YtcmpenmaphmifaaGreatDoorRows.lean that lists a variable, with what it lists TIED to the program's text (the seventh form; the later family's looks); each row that meets fmt, with fmt's text TOLD by the authors' own Lean function (tested against real Go, not proved from fmt's source: count such statements apart). THE CARD IS WHAT COUNTS. Prove the row's statement (the work); the ties are given (YtcmpenmaphmifaaGreatDoorTie.lean); close each card by the builder's one call (the guide's Derived/Test/ToyasCard.lean, 'card_holds'). Laid BY PROGRAM, IN A SANDBOX (cutbox-door.mjs). By AI agents, Wed Nov 11 2026. No macro, syntax, notation, axiom, sorry.
-/
import Derived.Test.YtcmpenmaphmifaaGreatDoorRows
import GoSem.ClaimSeven
namespace Go.Proofs.YtcmpenmaphmifaaGreatDoor
namespace Rows

/-- THE TIED CARD OF 'slackwaterlaw13.AskTexts'. -/
def askTextsCard : Claim7 := { stood := { row := askTextsRow, standIns := [], harness := (true, "332a69e6c391b3ae481be379299b0fa48a609ed20fd0a1bd44ca3f9cb6ddd07b"), looks := true }, kinds := [], alts := [], laidByText := true, laidKinds := [.data, .data, .data, .sentinel, .sentinel, .data, .data], laidTests := true, laidLooks := .later }
def AskTextsCardSaid : Prop := Claim7.holds Tryz.pinned (.plain (OpenSpec.ofChange askTextsSpec)) askTextsCard

/-- THE TIED CARD OF 'slackwaterlaw13.AskBack'. -/
def askBackCard : Claim7 := { stood := { row := askBackRow, standIns := [], harness := (true, "332a69e6c391b3ae481be379299b0fa48a609ed20fd0a1bd44ca3f9cb6ddd07b"), looks := true }, kinds := [], alts := [], laidByText := true, laidKinds := [.data, .data, .data, .sentinel, .sentinel, .data, .data], laidTests := true, laidLooks := .later }
def AskBackCardSaid : Prop := Claim7.holds Tryz.pinned (.plain (OpenSpec.ofChange askBackSpec)) askBackCard

/-- THE TIED CARD OF 'slackwaterlaw13.AskRuns'. -/
def askRunsCard : Claim7 := { stood := { row := askRunsRow, standIns := [], harness := (true, "332a69e6c391b3ae481be379299b0fa48a609ed20fd0a1bd44ca3f9cb6ddd07b"), looks := true }, kinds := [], alts := [], laidByText := true, laidKinds := [.data, .data, .data, .sentinel, .sentinel, .data, .data], laidTests := true, laidLooks := .later }
def AskRunsCardSaid : Prop := Claim7.holds Tryz.pinned (.plain (OpenSpec.ofChange askRunsSpec)) askRunsCard

/-- THE TIED CARD OF 'slackwaterlaw13.AskSplits'. -/
def askSplitsCard : Claim7 := { stood := { row := askSplitsRow, standIns := [], harness := (true, "332a69e6c391b3ae481be379299b0fa48a609ed20fd0a1bd44ca3f9cb6ddd07b"), looks := true }, kinds := [], alts := [], laidByText := true, laidKinds := [.data, .data, .data, .sentinel, .sentinel, .data, .data], laidTests := true, laidLooks := .later }
def AskSplitsCardSaid : Prop := Claim7.holds Tryz.pinned (.plain (OpenSpec.ofChange askSplitsSpec)) askSplitsCard

/-- THE SECOND FORM's CARD OF 'slackwaterlaw13.AskTexts'. -/
def askTextsUptoCard : Claim7 := { stood := { row := askTextsUptoRow, standIns := [], harness := (true, "332a69e6c391b3ae481be379299b0fa48a609ed20fd0a1bd44ca3f9cb6ddd07b"), looks := true }, kinds := [], alts := [], laidByText := true, laidKinds := [.data, .data, .data, .sentinel, .sentinel, .data, .data], laidTests := true, laidLooks := .later }
def AskTextsUptoCardSaid : Prop := Claim7.holds Tryz.pinned (.plain (OpenSpec.upto askTextsSpec)) askTextsUptoCard

/-- THE SECOND FORM's CARD OF 'slackwaterlaw13.AskBack'. -/
def askBackUptoCard : Claim7 := { stood := { row := askBackUptoRow, standIns := [], harness := (true, "332a69e6c391b3ae481be379299b0fa48a609ed20fd0a1bd44ca3f9cb6ddd07b"), looks := true }, kinds := [], alts := [], laidByText := true, laidKinds := [.data, .data, .data, .sentinel, .sentinel, .data, .data], laidTests := true, laidLooks := .later }
def AskBackUptoCardSaid : Prop := Claim7.holds Tryz.pinned (.plain (OpenSpec.upto askBackSpec)) askBackUptoCard

/-- THE SECOND FORM's CARD OF 'slackwaterlaw13.AskRuns'. -/
def askRunsUptoCard : Claim7 := { stood := { row := askRunsUptoRow, standIns := [], harness := (true, "332a69e6c391b3ae481be379299b0fa48a609ed20fd0a1bd44ca3f9cb6ddd07b"), looks := true }, kinds := [], alts := [], laidByText := true, laidKinds := [.data, .data, .data, .sentinel, .sentinel, .data, .data], laidTests := true, laidLooks := .later }
def AskRunsUptoCardSaid : Prop := Claim7.holds Tryz.pinned (.plain (OpenSpec.upto askRunsSpec)) askRunsUptoCard

/-- THE SECOND FORM's CARD OF 'slackwaterlaw13.AskSplits'. -/
def askSplitsUptoCard : Claim7 := { stood := { row := askSplitsUptoRow, standIns := [], harness := (true, "332a69e6c391b3ae481be379299b0fa48a609ed20fd0a1bd44ca3f9cb6ddd07b"), looks := true }, kinds := [], alts := [], laidByText := true, laidKinds := [.data, .data, .data, .sentinel, .sentinel, .data, .data], laidTests := true, laidLooks := .later }
def AskSplitsUptoCardSaid : Prop := Claim7.holds Tryz.pinned (.plain (OpenSpec.upto askSplitsSpec)) askSplitsUptoCard
end Rows
end Go.Proofs.YtcmpenmaphmifaaGreatDoor
