/-
  DERIVED. GIVEN WITH THE SEED: THE CARDS: each row of YtccpmaahnfgkeaaGreatDoorRows.lean that lists a variable, with what it lists TIED to the program's text (the seventh form; the later family's looks); each row that meets fmt, with fmt's text TOLD by the authors' own Lean function (tested against real Go, not proved from fmt's source: count such statements apart). THE CARD IS WHAT COUNTS. Prove the row's statement (the work); the ties are given (YtccpmaahnfgkeaaGreatDoorTie.lean); close each card by the builder's one call (the guide's Derived/Test/ToyasCard.lean, 'card_holds'). Laid BY PROGRAM, IN A SANDBOX (cutbox-door.mjs). By AI agents, Wed Nov 11 2026. No macro, syntax, notation, axiom, sorry.
-/
import Derived.Test.YtccpmaahnfgkeaaGreatDoorRows
import GoSem.ClaimSeven
namespace Go.Proofs.YtccpmaahnfgkeaaGreatDoor
namespace Rows

/-- THE TIED CARD OF 'websterlaw06.SecondSteps'. -/
def secondStepsCard : Claim7 := { stood := { row := secondStepsRow, standIns := [], harness := (true, "ec26c96e3340395e67ce64e44f83ed89364c0c5e4ae72570fd8adcaca5f0c98a"), looks := false }, kinds := [], alts := [], laidByText := true, laidKinds := [.data], laidTests := true, laidLooks := .later }
def SecondStepsCardSaid : Prop := Claim7.holds Tryz.pinned (.plain (OpenSpec.ofChange secondStepsSpec)) secondStepsCard

/-- THE SECOND FORM's CARD OF 'websterlaw06.SecondSteps'. -/
def secondStepsUptoCard : Claim7 := { stood := { row := secondStepsUptoRow, standIns := [], harness := (true, "ec26c96e3340395e67ce64e44f83ed89364c0c5e4ae72570fd8adcaca5f0c98a"), looks := false }, kinds := [], alts := [], laidByText := true, laidKinds := [.data], laidTests := true, laidLooks := .later }
def SecondStepsUptoCardSaid : Prop := Claim7.holds Tryz.pinned (.plain (OpenSpec.upto secondStepsSpec)) secondStepsUptoCard
end Rows
end Go.Proofs.YtccpmaahnfgkeaaGreatDoor
