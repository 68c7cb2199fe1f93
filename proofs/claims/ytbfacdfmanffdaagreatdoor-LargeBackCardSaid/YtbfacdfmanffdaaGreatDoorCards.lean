/-
  DERIVED. GIVEN WITH THE SEED: THE CARDS: each row of YtbfacdfmanffdaaGreatDoorRows.lean that lists a variable, with what it lists TIED to the program's text (the seventh form; the later family's looks); each row that meets fmt, with fmt's text TOLD by the authors' own Lean function (tested against real Go, not proved from fmt's source: count such statements apart). THE CARD IS WHAT COUNTS. Prove the row's statement (the work); the ties are given (YtbfacdfmanffdaaGreatDoorTie.lean); close each card by the builder's one call (the guide's Derived/Test/ToyasCard.lean, 'card_holds'). Laid BY PROGRAM, IN A SANDBOX (cutbox-door.mjs). By AI agents, Wed Nov 11 2026. No macro, syntax, notation, axiom, sorry.
-/
import Derived.Test.YtbfacdfmanffdaaGreatDoorRows
import GoSem.ClaimSeven
namespace Go.Proofs.YtbfacdfmanffdaaGreatDoor
namespace Rows

/-- THE TIED CARD OF 'websterlaw13.LargeNumbers'. -/
def largeNumbersCard : Claim7 := { stood := { row := largeNumbersRow, standIns := [], harness := (true, "37301802d147e8d1d1d37bce80d008b15bdd9b89d1d7e39e61776376c8ccca3e"), looks := true }, kinds := [], alts := [], laidByText := true, laidKinds := [.data, .data, .data, .data, .sentinel, .sentinel, .pinned], laidTests := true, laidLooks := .later }
def LargeNumbersCardSaid : Prop := Claim7.holds Tryz.pinned (.plain (OpenSpec.ofChange largeNumbersSpec)) largeNumbersCard

/-- THE TIED CARD OF 'websterlaw13.LargeBack'. -/
def largeBackCard : Claim7 := { stood := { row := largeBackRow, standIns := [], harness := (true, "37301802d147e8d1d1d37bce80d008b15bdd9b89d1d7e39e61776376c8ccca3e"), looks := true }, kinds := [], alts := [], laidByText := true, laidKinds := [.data, .data, .data, .data, .sentinel, .sentinel, .pinned], laidTests := true, laidLooks := .later }
def LargeBackCardSaid : Prop := Claim7.holds Tryz.pinned (.plain (OpenSpec.ofChange largeBackSpec)) largeBackCard

/-- THE TIED CARD OF 'websterlaw13.LargeRead'. -/
def largeReadCard : Claim7 := { stood := { row := largeReadRow, standIns := [], harness := (true, "37301802d147e8d1d1d37bce80d008b15bdd9b89d1d7e39e61776376c8ccca3e"), looks := true }, kinds := [], alts := [], laidByText := true, laidKinds := [.data, .data, .data, .data, .sentinel, .sentinel, .pinned], laidTests := true, laidLooks := .later }
def LargeReadCardSaid : Prop := Claim7.holds Tryz.pinned (.plain (OpenSpec.ofChange largeReadSpec)) largeReadCard

/-- THE SECOND FORM's CARD OF 'websterlaw13.LargeNumbers'. -/
def largeNumbersUptoCard : Claim7 := { stood := { row := largeNumbersUptoRow, standIns := [], harness := (true, "37301802d147e8d1d1d37bce80d008b15bdd9b89d1d7e39e61776376c8ccca3e"), looks := true }, kinds := [], alts := [], laidByText := true, laidKinds := [.data, .data, .data, .data, .sentinel, .sentinel, .pinned], laidTests := true, laidLooks := .later }
def LargeNumbersUptoCardSaid : Prop := Claim7.holds Tryz.pinned (.plain (OpenSpec.upto largeNumbersSpec)) largeNumbersUptoCard

/-- THE SECOND FORM's CARD OF 'websterlaw13.LargeBack'. -/
def largeBackUptoCard : Claim7 := { stood := { row := largeBackUptoRow, standIns := [], harness := (true, "37301802d147e8d1d1d37bce80d008b15bdd9b89d1d7e39e61776376c8ccca3e"), looks := true }, kinds := [], alts := [], laidByText := true, laidKinds := [.data, .data, .data, .data, .sentinel, .sentinel, .pinned], laidTests := true, laidLooks := .later }
def LargeBackUptoCardSaid : Prop := Claim7.holds Tryz.pinned (.plain (OpenSpec.upto largeBackSpec)) largeBackUptoCard

/-- THE SECOND FORM's CARD OF 'websterlaw13.LargeRead'. -/
def largeReadUptoCard : Claim7 := { stood := { row := largeReadUptoRow, standIns := [], harness := (true, "37301802d147e8d1d1d37bce80d008b15bdd9b89d1d7e39e61776376c8ccca3e"), looks := true }, kinds := [], alts := [], laidByText := true, laidKinds := [.data, .data, .data, .data, .sentinel, .sentinel, .pinned], laidTests := true, laidLooks := .later }
def LargeReadUptoCardSaid : Prop := Claim7.holds Tryz.pinned (.plain (OpenSpec.upto largeReadSpec)) largeReadUptoCard
end Rows
end Go.Proofs.YtbfacdfmanffdaaGreatDoor
