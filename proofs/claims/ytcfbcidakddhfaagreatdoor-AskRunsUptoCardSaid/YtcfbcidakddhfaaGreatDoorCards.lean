/-
  DERIVED. GIVEN WITH THE SEED: THE CARDS: each row of YtcfbcidakddhfaaGreatDoorRows.lean that lists a variable, with what it lists TIED to the program's text (the seventh form; the later family's looks); each row that meets fmt, with fmt's text TOLD by the authors' own Lean function (tested against real Go, not proved from fmt's source: count such statements apart). THE CARD IS WHAT COUNTS. Prove the row's statement (the work); the ties are given (YtcfbcidakddhfaaGreatDoorTie.lean); close each card by the builder's one call (the guide's Derived/Test/ToyasCard.lean, 'card_holds'). Laid BY PROGRAM, IN A SANDBOX (cutbox-door.mjs). By AI agents, Wed Nov 11 2026. No macro, syntax, notation, axiom, sorry.
-/
import Derived.Test.YtcfbcidakddhfaaGreatDoorRows
import GoSem.ClaimSeven
namespace Go.Proofs.YtcfbcidakddhfaaGreatDoor
namespace Rows

/-- THE TIED CARD OF 'slackwaterlaw13.AskRuns'. -/
def askRunsCard : Claim7 := { stood := { row := askRunsRow, standIns := [], harness := (true, "3bd89915793c7f9809f8447b237234b2208d31cf7df4ebbb8a0d3da0e9f2b1a5"), looks := true }, kinds := [], alts := [], laidByText := true, laidKinds := [.data, .data, .data, .sentinel, .sentinel, .data, .data], laidTests := true, laidLooks := .later }
def AskRunsCardSaid : Prop := Claim7.holds Tryz.pinned (.plain (OpenSpec.ofChange askRunsSpec)) askRunsCard

/-- THE SECOND FORM's CARD OF 'slackwaterlaw13.AskRuns'. -/
def askRunsUptoCard : Claim7 := { stood := { row := askRunsUptoRow, standIns := [], harness := (true, "3bd89915793c7f9809f8447b237234b2208d31cf7df4ebbb8a0d3da0e9f2b1a5"), looks := true }, kinds := [], alts := [], laidByText := true, laidKinds := [.data, .data, .data, .sentinel, .sentinel, .data, .data], laidTests := true, laidLooks := .later }
def AskRunsUptoCardSaid : Prop := Claim7.holds Tryz.pinned (.plain (OpenSpec.upto askRunsSpec)) askRunsUptoCard
end Rows
end Go.Proofs.YtcfbcidakddhfaaGreatDoor
