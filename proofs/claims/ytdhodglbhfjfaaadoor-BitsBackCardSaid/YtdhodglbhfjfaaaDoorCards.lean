/-
  DERIVED. GIVEN WITH THE SEED: THE CARDS: each row of YtdhodglbhfjfaaaDoorRows.lean that lists a variable, with what it lists TIED to the program's text (the seventh form; the later family's looks); each row that meets fmt, with fmt's text TOLD by the authors' own Lean function (tested against real Go, not proved from fmt's source: count such statements apart). THE CARD IS WHAT COUNTS. Prove the row's statement (the work); the ties are given (YtdhodglbhfjfaaaDoorTie.lean); close each card by the builder's one call (the guide's Derived/Test/ToyasCard.lean, 'card_holds'). Laid BY PROGRAM, IN A SANDBOX (cutbox-door.mjs). By AI agents, Wed Nov 11 2026. No macro, syntax, notation, axiom, sorry.
-/
import Derived.Test.YtdhodglbhfjfaaaDoorRows
import GoSem.ClaimSeven
namespace Go.Proofs.YtdhodglbhfjfaaaDoor
namespace Rows

/-- THE TIED CARD OF 'websterlaw02.BitsBack'. -/
def bitsBackCard : Claim7 := { stood := { row := bitsBackRow, standIns := [], harness := (true, "5e291a71a13c3398cfc2698423a671421766ed3e1958b79b578a83f7829fa2b9"), looks := false }, kinds := [], alts := [], laidByText := true, laidKinds := [.data], laidTests := true, laidLooks := .later }
def BitsBackCardSaid : Prop := Claim7.holds Tryd.pinned (.plain (OpenSpec.ofChange bitsBackSpec)) bitsBackCard

/-- THE TIED CARD OF 'websterlaw02.BitsRuns'. -/
def bitsRunsCard : Claim7 := { stood := { row := bitsRunsRow, standIns := [], harness := (true, "5e291a71a13c3398cfc2698423a671421766ed3e1958b79b578a83f7829fa2b9"), looks := false }, kinds := [], alts := [], laidByText := true, laidKinds := [.data], laidTests := true, laidLooks := .later }
def BitsRunsCardSaid : Prop := Claim7.holds Tryd.pinned (.plain (OpenSpec.ofChange bitsRunsSpec)) bitsRunsCard

/-- THE TIED CARD OF 'websterlaw02.BitsNew'. -/
def bitsNewCard : Claim7 := { stood := { row := bitsNewRow, standIns := [], harness := (true, "5e291a71a13c3398cfc2698423a671421766ed3e1958b79b578a83f7829fa2b9"), looks := false }, kinds := [], alts := [], laidByText := true, laidKinds := [.data], laidTests := true, laidLooks := .later }
def BitsNewCardSaid : Prop := Claim7.holds Tryd.pinned (.plain (OpenSpec.ofChange bitsNewSpec)) bitsNewCard

/-- THE TIED CARD OF 'websterlaw02.BitsFull'. -/
def bitsFullCard : Claim7 := { stood := { row := bitsFullRow, standIns := [], harness := (true, "5e291a71a13c3398cfc2698423a671421766ed3e1958b79b578a83f7829fa2b9"), looks := false }, kinds := [], alts := [], laidByText := true, laidKinds := [.data], laidTests := true, laidLooks := .later }
def BitsFullCardSaid : Prop := Claim7.holds Tryd.pinned (.plain (OpenSpec.ofChange bitsFullSpec)) bitsFullCard

/-- THE TIED CARD OF 'websterlaw02.BitsApart'. -/
def bitsApartCard : Claim7 := { stood := { row := bitsApartRow, standIns := [], harness := (true, "5e291a71a13c3398cfc2698423a671421766ed3e1958b79b578a83f7829fa2b9"), looks := false }, kinds := [], alts := [], laidByText := true, laidKinds := [.data], laidTests := true, laidLooks := .later }
def BitsApartCardSaid : Prop := Claim7.holds Tryd.pinned (.plain (OpenSpec.ofChange bitsApartSpec)) bitsApartCard

/-- THE SECOND FORM's CARD OF 'websterlaw02.BitsBack'. -/
def bitsBackUptoCard : Claim7 := { stood := { row := bitsBackUptoRow, standIns := [], harness := (true, "5e291a71a13c3398cfc2698423a671421766ed3e1958b79b578a83f7829fa2b9"), looks := false }, kinds := [], alts := [], laidByText := true, laidKinds := [.data], laidTests := true, laidLooks := .later }
def BitsBackUptoCardSaid : Prop := Claim7.holds Tryd.pinned (.plain (OpenSpec.upto bitsBackSpec)) bitsBackUptoCard

/-- THE SECOND FORM's CARD OF 'websterlaw02.BitsRuns'. -/
def bitsRunsUptoCard : Claim7 := { stood := { row := bitsRunsUptoRow, standIns := [], harness := (true, "5e291a71a13c3398cfc2698423a671421766ed3e1958b79b578a83f7829fa2b9"), looks := false }, kinds := [], alts := [], laidByText := true, laidKinds := [.data], laidTests := true, laidLooks := .later }
def BitsRunsUptoCardSaid : Prop := Claim7.holds Tryd.pinned (.plain (OpenSpec.upto bitsRunsSpec)) bitsRunsUptoCard

/-- THE SECOND FORM's CARD OF 'websterlaw02.BitsNew'. -/
def bitsNewUptoCard : Claim7 := { stood := { row := bitsNewUptoRow, standIns := [], harness := (true, "5e291a71a13c3398cfc2698423a671421766ed3e1958b79b578a83f7829fa2b9"), looks := false }, kinds := [], alts := [], laidByText := true, laidKinds := [.data], laidTests := true, laidLooks := .later }
def BitsNewUptoCardSaid : Prop := Claim7.holds Tryd.pinned (.plain (OpenSpec.upto bitsNewSpec)) bitsNewUptoCard

/-- THE SECOND FORM's CARD OF 'websterlaw02.BitsFull'. -/
def bitsFullUptoCard : Claim7 := { stood := { row := bitsFullUptoRow, standIns := [], harness := (true, "5e291a71a13c3398cfc2698423a671421766ed3e1958b79b578a83f7829fa2b9"), looks := false }, kinds := [], alts := [], laidByText := true, laidKinds := [.data], laidTests := true, laidLooks := .later }
def BitsFullUptoCardSaid : Prop := Claim7.holds Tryd.pinned (.plain (OpenSpec.upto bitsFullSpec)) bitsFullUptoCard

/-- THE SECOND FORM's CARD OF 'websterlaw02.BitsApart'. -/
def bitsApartUptoCard : Claim7 := { stood := { row := bitsApartUptoRow, standIns := [], harness := (true, "5e291a71a13c3398cfc2698423a671421766ed3e1958b79b578a83f7829fa2b9"), looks := false }, kinds := [], alts := [], laidByText := true, laidKinds := [.data], laidTests := true, laidLooks := .later }
def BitsApartUptoCardSaid : Prop := Claim7.holds Tryd.pinned (.plain (OpenSpec.upto bitsApartSpec)) bitsApartUptoCard
end Rows
end Go.Proofs.YtdhodglbhfjfaaaDoor
