/-
  DERIVED. GIVEN WITH THE SEED: THE CARDS: each row of YtbfacdfmanffdaaDoorRows.lean that lists a variable, with what it lists TIED to the program's text (the seventh form; the later family's looks); each row that meets fmt, with fmt's text TOLD by the authors' own Lean function (tested against real Go, not proved from fmt's source: count such statements apart). THE CARD IS WHAT COUNTS. Prove the row's statement (the work); the ties are given (YtbfacdfmanffdaaDoorTie.lean); close each card by the builder's one call (the guide's Derived/Test/ToyasCard.lean, 'card_holds'). Laid BY PROGRAM, IN A SANDBOX (cutbox-door.mjs). By AI agents, Wed Nov 11 2026. No macro, syntax, notation, axiom, sorry.
-/
import Derived.Test.YtbfacdfmanffdaaDoorRows
import GoSem.ClaimSeven
namespace Go.Proofs.YtbfacdfmanffdaaDoor
namespace Rows

/-- THE TIED CARD OF 'websterlaw13.LargeReckons'. -/
def largeReckonsCard : Claim7 := { stood := { row := largeReckonsRow, standIns := [], harness := (true, "b4af56d99a6e0baa3a4db72eeb13487f3dda16c7b6612b6bfa5cd782b2e12f50"), looks := false }, kinds := [], alts := [], laidByText := true, laidKinds := [.data, .data, .data, .data, .pinned], laidTests := true, laidLooks := .later }
def LargeReckonsCardSaid : Prop := Claim7.holds Tryd.pinned (.plain (OpenSpec.ofChange largeReckonsSpec)) largeReckonsCard

/-- THE TIED CARD OF 'websterlaw13.LargeLaws'. -/
def largeLawsCard : Claim7 := { stood := { row := largeLawsRow, standIns := [], harness := (true, "b4af56d99a6e0baa3a4db72eeb13487f3dda16c7b6612b6bfa5cd782b2e12f50"), looks := false }, kinds := [], alts := [], laidByText := true, laidKinds := [.data, .data, .data, .data, .pinned], laidTests := true, laidLooks := .later }
def LargeLawsCardSaid : Prop := Claim7.holds Tryd.pinned (.plain (OpenSpec.ofChange largeLawsSpec)) largeLawsCard

/-- THE TIED CARD OF 'websterlaw13.LargeAdd'. -/
def largeAddCard : Claim7 := { stood := { row := largeAddRow, standIns := [], harness := (true, "b4af56d99a6e0baa3a4db72eeb13487f3dda16c7b6612b6bfa5cd782b2e12f50"), looks := false }, kinds := [], alts := [], laidByText := true, laidKinds := [.data, .data, .data, .data, .pinned], laidTests := true, laidLooks := .later }
def LargeAddCardSaid : Prop := Claim7.holds Tryd.pinned (.plain (OpenSpec.ofChange largeAddSpec)) largeAddCard

/-- THE TIED CARD OF 'websterlaw13.LargeSub'. -/
def largeSubCard : Claim7 := { stood := { row := largeSubRow, standIns := [], harness := (true, "b4af56d99a6e0baa3a4db72eeb13487f3dda16c7b6612b6bfa5cd782b2e12f50"), looks := false }, kinds := [], alts := [], laidByText := true, laidKinds := [.data, .data, .data, .data, .pinned], laidTests := true, laidLooks := .later }
def LargeSubCardSaid : Prop := Claim7.holds Tryd.pinned (.plain (OpenSpec.ofChange largeSubSpec)) largeSubCard

/-- THE TIED CARD OF 'websterlaw13.LargeDiv'. -/
def largeDivCard : Claim7 := { stood := { row := largeDivRow, standIns := [], harness := (true, "b4af56d99a6e0baa3a4db72eeb13487f3dda16c7b6612b6bfa5cd782b2e12f50"), looks := false }, kinds := [], alts := [], laidByText := true, laidKinds := [.data, .data, .data, .data, .pinned], laidTests := true, laidLooks := .later }
def LargeDivCardSaid : Prop := Claim7.holds Tryd.pinned (.plain (OpenSpec.ofChange largeDivSpec)) largeDivCard

/-- THE TIED CARD OF 'websterlaw13.LargeCmp'. -/
def largeCmpCard : Claim7 := { stood := { row := largeCmpRow, standIns := [], harness := (true, "b4af56d99a6e0baa3a4db72eeb13487f3dda16c7b6612b6bfa5cd782b2e12f50"), looks := false }, kinds := [], alts := [], laidByText := true, laidKinds := [.data, .data, .data, .data, .pinned], laidTests := true, laidLooks := .later }
def LargeCmpCardSaid : Prop := Claim7.holds Tryd.pinned (.plain (OpenSpec.ofChange largeCmpSpec)) largeCmpCard

/-- THE TIED CARD OF 'websterlaw13.LargeInt'. -/
def largeIntCard : Claim7 := { stood := { row := largeIntRow, standIns := [], harness := (true, "b4af56d99a6e0baa3a4db72eeb13487f3dda16c7b6612b6bfa5cd782b2e12f50"), looks := false }, kinds := [], alts := [], laidByText := true, laidKinds := [.data, .data, .data, .data, .pinned], laidTests := true, laidLooks := .later }
def LargeIntCardSaid : Prop := Claim7.holds Tryd.pinned (.plain (OpenSpec.ofChange largeIntSpec)) largeIntCard

/-- THE SECOND FORM's CARD OF 'websterlaw13.LargeReckons'. -/
def largeReckonsUptoCard : Claim7 := { stood := { row := largeReckonsUptoRow, standIns := [], harness := (true, "b4af56d99a6e0baa3a4db72eeb13487f3dda16c7b6612b6bfa5cd782b2e12f50"), looks := false }, kinds := [], alts := [], laidByText := true, laidKinds := [.data, .data, .data, .data, .pinned], laidTests := true, laidLooks := .later }
def LargeReckonsUptoCardSaid : Prop := Claim7.holds Tryd.pinned (.plain (OpenSpec.upto largeReckonsSpec)) largeReckonsUptoCard

/-- THE SECOND FORM's CARD OF 'websterlaw13.LargeLaws'. -/
def largeLawsUptoCard : Claim7 := { stood := { row := largeLawsUptoRow, standIns := [], harness := (true, "b4af56d99a6e0baa3a4db72eeb13487f3dda16c7b6612b6bfa5cd782b2e12f50"), looks := false }, kinds := [], alts := [], laidByText := true, laidKinds := [.data, .data, .data, .data, .pinned], laidTests := true, laidLooks := .later }
def LargeLawsUptoCardSaid : Prop := Claim7.holds Tryd.pinned (.plain (OpenSpec.upto largeLawsSpec)) largeLawsUptoCard

/-- THE SECOND FORM's CARD OF 'websterlaw13.LargeAdd'. -/
def largeAddUptoCard : Claim7 := { stood := { row := largeAddUptoRow, standIns := [], harness := (true, "b4af56d99a6e0baa3a4db72eeb13487f3dda16c7b6612b6bfa5cd782b2e12f50"), looks := false }, kinds := [], alts := [], laidByText := true, laidKinds := [.data, .data, .data, .data, .pinned], laidTests := true, laidLooks := .later }
def LargeAddUptoCardSaid : Prop := Claim7.holds Tryd.pinned (.plain (OpenSpec.upto largeAddSpec)) largeAddUptoCard

/-- THE SECOND FORM's CARD OF 'websterlaw13.LargeSub'. -/
def largeSubUptoCard : Claim7 := { stood := { row := largeSubUptoRow, standIns := [], harness := (true, "b4af56d99a6e0baa3a4db72eeb13487f3dda16c7b6612b6bfa5cd782b2e12f50"), looks := false }, kinds := [], alts := [], laidByText := true, laidKinds := [.data, .data, .data, .data, .pinned], laidTests := true, laidLooks := .later }
def LargeSubUptoCardSaid : Prop := Claim7.holds Tryd.pinned (.plain (OpenSpec.upto largeSubSpec)) largeSubUptoCard

/-- THE SECOND FORM's CARD OF 'websterlaw13.LargeDiv'. -/
def largeDivUptoCard : Claim7 := { stood := { row := largeDivUptoRow, standIns := [], harness := (true, "b4af56d99a6e0baa3a4db72eeb13487f3dda16c7b6612b6bfa5cd782b2e12f50"), looks := false }, kinds := [], alts := [], laidByText := true, laidKinds := [.data, .data, .data, .data, .pinned], laidTests := true, laidLooks := .later }
def LargeDivUptoCardSaid : Prop := Claim7.holds Tryd.pinned (.plain (OpenSpec.upto largeDivSpec)) largeDivUptoCard

/-- THE SECOND FORM's CARD OF 'websterlaw13.LargeCmp'. -/
def largeCmpUptoCard : Claim7 := { stood := { row := largeCmpUptoRow, standIns := [], harness := (true, "b4af56d99a6e0baa3a4db72eeb13487f3dda16c7b6612b6bfa5cd782b2e12f50"), looks := false }, kinds := [], alts := [], laidByText := true, laidKinds := [.data, .data, .data, .data, .pinned], laidTests := true, laidLooks := .later }
def LargeCmpUptoCardSaid : Prop := Claim7.holds Tryd.pinned (.plain (OpenSpec.upto largeCmpSpec)) largeCmpUptoCard

/-- THE SECOND FORM's CARD OF 'websterlaw13.LargeInt'. -/
def largeIntUptoCard : Claim7 := { stood := { row := largeIntUptoRow, standIns := [], harness := (true, "b4af56d99a6e0baa3a4db72eeb13487f3dda16c7b6612b6bfa5cd782b2e12f50"), looks := false }, kinds := [], alts := [], laidByText := true, laidKinds := [.data, .data, .data, .data, .pinned], laidTests := true, laidLooks := .later }
def LargeIntUptoCardSaid : Prop := Claim7.holds Tryd.pinned (.plain (OpenSpec.upto largeIntSpec)) largeIntUptoCard
end Rows
end Go.Proofs.YtbfacdfmanffdaaDoor
