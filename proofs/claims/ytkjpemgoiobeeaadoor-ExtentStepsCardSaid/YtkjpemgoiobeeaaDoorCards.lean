/-
  DERIVED. GIVEN WITH THE SEED: THE CARDS: each row of YtkjpemgoiobeeaaDoorRows.lean that lists a variable, with what it lists TIED to the program's text (the seventh form; the later family's looks); each row that meets fmt, with fmt's text TOLD by the authors' own Lean function (tested against real Go, not proved from fmt's source: count such statements apart). THE CARD IS WHAT COUNTS. Prove the row's statement (the work); the ties are given (YtkjpemgoiobeeaaDoorTie.lean); close each card by the builder's one call (the guide's Derived/Test/ToyasCard.lean, 'card_holds'). Laid BY PROGRAM, IN A SANDBOX (cutbox-door.mjs). By AI agents, Wed Nov 11 2026. No macro, syntax, notation, axiom, sorry.
-/
import Derived.Test.YtkjpemgoiobeeaaDoorRows
import GoSem.ClaimSeven
namespace Go.Proofs.YtkjpemgoiobeeaaDoor
namespace Rows

/-- THE TIED CARD OF 'websterlaw04.ExtentSteps'. -/
def extentStepsCard : Claim7 := { stood := { row := extentStepsRow, standIns := [], harness := (true, "b60934dc4c6bbf2dc81d1cab622f104b27ea1de68f64053a1c7b878400607c0e"), looks := false }, kinds := [], alts := [], laidByText := true, laidKinds := [.data], laidTests := true, laidLooks := .later }
def ExtentStepsCardSaid : Prop := Claim7.holds Tryd.pinned (.plain (OpenSpec.ofChange extentStepsSpec)) extentStepsCard

/-- THE TIED CARD OF 'websterlaw04.ExtentBack'. -/
def extentBackCard : Claim7 := { stood := { row := extentBackRow, standIns := [], harness := (true, "b60934dc4c6bbf2dc81d1cab622f104b27ea1de68f64053a1c7b878400607c0e"), looks := false }, kinds := [], alts := [], laidByText := true, laidKinds := [.data], laidTests := true, laidLooks := .later }
def ExtentBackCardSaid : Prop := Claim7.holds Tryd.pinned (.plain (OpenSpec.ofChange extentBackSpec)) extentBackCard

/-- THE TIED CARD OF 'websterlaw04.ExtentSectors'. -/
def extentSectorsCard : Claim7 := { stood := { row := extentSectorsRow, standIns := [], harness := (true, "b60934dc4c6bbf2dc81d1cab622f104b27ea1de68f64053a1c7b878400607c0e"), looks := false }, kinds := [], alts := [], laidByText := true, laidKinds := [.data], laidTests := true, laidLooks := .later }
def ExtentSectorsCardSaid : Prop := Claim7.holds Tryd.pinned (.plain (OpenSpec.ofChange extentSectorsSpec)) extentSectorsCard

/-- THE TIED CARD OF 'websterlaw04.ExtentSet'. -/
def extentSetCard : Claim7 := { stood := { row := extentSetRow, standIns := [], harness := (true, "b60934dc4c6bbf2dc81d1cab622f104b27ea1de68f64053a1c7b878400607c0e"), looks := false }, kinds := [], alts := [], laidByText := true, laidKinds := [.data], laidTests := true, laidLooks := .later }
def ExtentSetCardSaid : Prop := Claim7.holds Tryd.pinned (.plain (OpenSpec.ofChange extentSetSpec)) extentSetCard

/-- THE TIED CARD OF 'websterlaw04.ExtentAgain'. -/
def extentAgainCard : Claim7 := { stood := { row := extentAgainRow, standIns := [], harness := (true, "b60934dc4c6bbf2dc81d1cab622f104b27ea1de68f64053a1c7b878400607c0e"), looks := false }, kinds := [], alts := [], laidByText := true, laidKinds := [.data], laidTests := true, laidLooks := .later }
def ExtentAgainCardSaid : Prop := Claim7.holds Tryd.pinned (.plain (OpenSpec.ofChange extentAgainSpec)) extentAgainCard

/-- THE SECOND FORM's CARD OF 'websterlaw04.ExtentSteps'. -/
def extentStepsUptoCard : Claim7 := { stood := { row := extentStepsUptoRow, standIns := [], harness := (true, "b60934dc4c6bbf2dc81d1cab622f104b27ea1de68f64053a1c7b878400607c0e"), looks := false }, kinds := [], alts := [], laidByText := true, laidKinds := [.data], laidTests := true, laidLooks := .later }
def ExtentStepsUptoCardSaid : Prop := Claim7.holds Tryd.pinned (.plain (OpenSpec.upto extentStepsSpec)) extentStepsUptoCard

/-- THE SECOND FORM's CARD OF 'websterlaw04.ExtentBack'. -/
def extentBackUptoCard : Claim7 := { stood := { row := extentBackUptoRow, standIns := [], harness := (true, "b60934dc4c6bbf2dc81d1cab622f104b27ea1de68f64053a1c7b878400607c0e"), looks := false }, kinds := [], alts := [], laidByText := true, laidKinds := [.data], laidTests := true, laidLooks := .later }
def ExtentBackUptoCardSaid : Prop := Claim7.holds Tryd.pinned (.plain (OpenSpec.upto extentBackSpec)) extentBackUptoCard

/-- THE SECOND FORM's CARD OF 'websterlaw04.ExtentSectors'. -/
def extentSectorsUptoCard : Claim7 := { stood := { row := extentSectorsUptoRow, standIns := [], harness := (true, "b60934dc4c6bbf2dc81d1cab622f104b27ea1de68f64053a1c7b878400607c0e"), looks := false }, kinds := [], alts := [], laidByText := true, laidKinds := [.data], laidTests := true, laidLooks := .later }
def ExtentSectorsUptoCardSaid : Prop := Claim7.holds Tryd.pinned (.plain (OpenSpec.upto extentSectorsSpec)) extentSectorsUptoCard

/-- THE SECOND FORM's CARD OF 'websterlaw04.ExtentSet'. -/
def extentSetUptoCard : Claim7 := { stood := { row := extentSetUptoRow, standIns := [], harness := (true, "b60934dc4c6bbf2dc81d1cab622f104b27ea1de68f64053a1c7b878400607c0e"), looks := false }, kinds := [], alts := [], laidByText := true, laidKinds := [.data], laidTests := true, laidLooks := .later }
def ExtentSetUptoCardSaid : Prop := Claim7.holds Tryd.pinned (.plain (OpenSpec.upto extentSetSpec)) extentSetUptoCard

/-- THE SECOND FORM's CARD OF 'websterlaw04.ExtentAgain'. -/
def extentAgainUptoCard : Claim7 := { stood := { row := extentAgainUptoRow, standIns := [], harness := (true, "b60934dc4c6bbf2dc81d1cab622f104b27ea1de68f64053a1c7b878400607c0e"), looks := false }, kinds := [], alts := [], laidByText := true, laidKinds := [.data], laidTests := true, laidLooks := .later }
def ExtentAgainUptoCardSaid : Prop := Claim7.holds Tryd.pinned (.plain (OpenSpec.upto extentAgainSpec)) extentAgainUptoCard
end Rows
end Go.Proofs.YtkjpemgoiobeeaaDoor
