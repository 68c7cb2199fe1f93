/-
  DERIVED. GIVEN WITH THE SEED: THE CARDS: each row of YtapjeilfkpfllaaDoorRows.lean that lists a variable, with what it lists TIED to the program's text (the seventh form; the later family's looks); each row that meets fmt, with fmt's text TOLD by the authors' own Lean function (tested against real Go, not proved from fmt's source: count such statements apart). THE CARD IS WHAT COUNTS. Prove the row's statement (the work); the ties are given (YtapjeilfkpfllaaDoorTie.lean); close each card by the builder's one call (the guide's Derived/Test/ToyasCard.lean, 'card_holds'). Laid BY PROGRAM, IN A SANDBOX (cutbox-door.mjs). By AI agents, Wed Nov 11 2026. No macro, syntax, notation, axiom, sorry.
-/
import Derived.Test.YtapjeilfkpfllaaDoorRows
import GoSem.ClaimSeven
namespace Go.Proofs.YtapjeilfkpfllaaDoor
namespace Rows

/-- THE TIED CARD OF 'websterlaw06.SecondKeeps'. -/
def secondKeepsCard : Claim7 := { stood := { row := secondKeepsRow, standIns := [], harness := (true, "88bc7749d8f6de911710b30bfccbac40c42cd5b2665b36e0ef1a780e0399c671"), looks := false }, kinds := [], alts := [], laidByText := true, laidKinds := [.data], laidTests := true, laidLooks := .later }
def SecondKeepsCardSaid : Prop := Claim7.holds Tryd.pinned (.plain (OpenSpec.ofChange secondKeepsSpec)) secondKeepsCard

/-- THE TIED CARD OF 'websterlaw06.SecondMakes'. -/
def secondMakesCard : Claim7 := { stood := { row := secondMakesRow, standIns := [], harness := (true, "88bc7749d8f6de911710b30bfccbac40c42cd5b2665b36e0ef1a780e0399c671"), looks := false }, kinds := [], alts := [], laidByText := true, laidKinds := [.data], laidTests := true, laidLooks := .later }
def SecondMakesCardSaid : Prop := Claim7.holds Tryd.pinned (.plain (OpenSpec.ofChange secondMakesSpec)) secondMakesCard

/-- THE TIED CARD OF 'websterlaw06.SecondNear'. -/
def secondNearCard : Claim7 := { stood := { row := secondNearRow, standIns := [], harness := (true, "88bc7749d8f6de911710b30bfccbac40c42cd5b2665b36e0ef1a780e0399c671"), looks := false }, kinds := [], alts := [], laidByText := true, laidKinds := [.data], laidTests := true, laidLooks := .later }
def SecondNearCardSaid : Prop := Claim7.holds Tryd.pinned (.plain (OpenSpec.ofChange secondNearSpec)) secondNearCard

/-- THE TIED CARD OF 'websterlaw06.SecondStores'. -/
def secondStoresCard : Claim7 := { stood := { row := secondStoresRow, standIns := [], harness := (true, "88bc7749d8f6de911710b30bfccbac40c42cd5b2665b36e0ef1a780e0399c671"), looks := false }, kinds := [], alts := [], laidByText := true, laidKinds := [.data], laidTests := true, laidLooks := .later }
def SecondStoresCardSaid : Prop := Claim7.holds Tryd.pinned (.plain (OpenSpec.ofChange secondStoresSpec)) secondStoresCard

/-- THE SECOND FORM's CARD OF 'websterlaw06.SecondKeeps'. -/
def secondKeepsUptoCard : Claim7 := { stood := { row := secondKeepsUptoRow, standIns := [], harness := (true, "88bc7749d8f6de911710b30bfccbac40c42cd5b2665b36e0ef1a780e0399c671"), looks := false }, kinds := [], alts := [], laidByText := true, laidKinds := [.data], laidTests := true, laidLooks := .later }
def SecondKeepsUptoCardSaid : Prop := Claim7.holds Tryd.pinned (.plain (OpenSpec.upto secondKeepsSpec)) secondKeepsUptoCard

/-- THE SECOND FORM's CARD OF 'websterlaw06.SecondMakes'. -/
def secondMakesUptoCard : Claim7 := { stood := { row := secondMakesUptoRow, standIns := [], harness := (true, "88bc7749d8f6de911710b30bfccbac40c42cd5b2665b36e0ef1a780e0399c671"), looks := false }, kinds := [], alts := [], laidByText := true, laidKinds := [.data], laidTests := true, laidLooks := .later }
def SecondMakesUptoCardSaid : Prop := Claim7.holds Tryd.pinned (.plain (OpenSpec.upto secondMakesSpec)) secondMakesUptoCard

/-- THE SECOND FORM's CARD OF 'websterlaw06.SecondNear'. -/
def secondNearUptoCard : Claim7 := { stood := { row := secondNearUptoRow, standIns := [], harness := (true, "88bc7749d8f6de911710b30bfccbac40c42cd5b2665b36e0ef1a780e0399c671"), looks := false }, kinds := [], alts := [], laidByText := true, laidKinds := [.data], laidTests := true, laidLooks := .later }
def SecondNearUptoCardSaid : Prop := Claim7.holds Tryd.pinned (.plain (OpenSpec.upto secondNearSpec)) secondNearUptoCard

/-- THE SECOND FORM's CARD OF 'websterlaw06.SecondStores'. -/
def secondStoresUptoCard : Claim7 := { stood := { row := secondStoresUptoRow, standIns := [], harness := (true, "88bc7749d8f6de911710b30bfccbac40c42cd5b2665b36e0ef1a780e0399c671"), looks := false }, kinds := [], alts := [], laidByText := true, laidKinds := [.data], laidTests := true, laidLooks := .later }
def SecondStoresUptoCardSaid : Prop := Claim7.holds Tryd.pinned (.plain (OpenSpec.upto secondStoresSpec)) secondStoresUptoCard
end Rows
end Go.Proofs.YtapjeilfkpfllaaDoor
