/-
  No cell of these rows narrows 'for every input' (looked for: loops, veiled, ifaces, maps, wideKeys, modest, calm, conditions, laid).
  DERIVED. THE GIVEN ROWS OF THIS SEAT. 5 by the template 'for every input the law returns true; each argument reads behind the call as it read before'; 0 by the template 'total and deterministic' (their statements: YthooeehobhegbaaTotals.lean).
  GIVEN WITH THE SEED: the statements are not yours to turn. If you find one false, say at which input.
  Laid BY PROGRAM, IN A SANDBOX (cutbox-rows.mjs): the forced cells as the released guide's own fill.sh prints them over the translation cb75c8b4fc0d4ad0… (all of the seat's roots in one cut). By AI agents, Wed Nov 11 2026. No macro, syntax, notation, axiom, sorry.
-/
import Derived.Test.YthooeehobhegbaaChecked
import GoSem.Claim
import GoSem.ClaimJoined
import GoSem.ClaimMapViews
import Derived.JoinedTies
import Derived.KernelRfl
namespace Go.Proofs.Ythooeehobhegbaa
/- THE CELL 'sum', in the pinned program and in every row, IS THE sha256 OF THE DUMP (.gsa) THAT YthooeehobhegbaaProg.lean LOADS. Nothing in Lean hashes anything: it is a label: what it is worth is what the hold of that sum in a sandbox is worth. -/
noncomputable def Try.pinned : Pinned := { name := "ythooeehobhegbaa", sum := "cb75c8b4fc0d4ad026a5ec0eb89b5c429d9ec27863bd6b8780b69c82287eb747", checked := Try.checked }
namespace Rows
def none {H : Type} : Left H := { results := [], args := [] }

/-- 'websterlaw08.NamesSteps': WHATEVER THE INPUT: true; the input reads as it did. -/
def namesStepsSpec : ChangeSpec := { name := "namesSteps", fn := fun _ => fun
  | [d1, d2, d3] => { results := [.lit (.bool true)], args := [d1, d2, d3] }
  | _ => none }
def namesStepsRow : OpenClaim := { program := "ythooeehobhegbaa", sum := "cb75c8b4fc0d4ad026a5ec0eb89b5c429d9ec27863bd6b8780b69c82287eb747", func := "webster/websterlaw08.NamesSteps", spec := "namesSteps", unfollowed := true, recurses := true, apart := false }
def NamesStepsSaid : Prop := namesStepsRow.holds Try.pinned (OpenSpec.ofChange namesStepsSpec)

/-- ITS FALSE NEIGHBOUR: 'it returns false'. Refute it at one input. -/
def namesStepsWrong : ChangeSpec := { name := "namesSteps", fn := fun _ => fun
  | [d1, d2, d3] => { results := [.lit (.bool false)], args := [d1, d2, d3] }
  | _ => none }
def NamesStepsWrongFalsely : Prop := namesStepsRow.holds Try.pinned (OpenSpec.ofChange namesStepsWrong)

/-- 'websterlaw08.NamesBoth': WHATEVER THE INPUT: true; the input reads as it did. -/
def namesBothSpec : ChangeSpec := { name := "namesBoth", fn := fun _ => fun
  | [d1, d2] => { results := [.lit (.bool true)], args := [d1, d2] }
  | _ => none }
def namesBothRow : OpenClaim := { program := "ythooeehobhegbaa", sum := "cb75c8b4fc0d4ad026a5ec0eb89b5c429d9ec27863bd6b8780b69c82287eb747", func := "webster/websterlaw08.NamesBoth", spec := "namesBoth", unfollowed := true, recurses := true, apart := false }
def NamesBothSaid : Prop := namesBothRow.holds Try.pinned (OpenSpec.ofChange namesBothSpec)

/-- ITS FALSE NEIGHBOUR: 'it returns false'. Refute it at one input. -/
def namesBothWrong : ChangeSpec := { name := "namesBoth", fn := fun _ => fun
  | [d1, d2] => { results := [.lit (.bool false)], args := [d1, d2] }
  | _ => none }
def NamesBothWrongFalsely : Prop := namesBothRow.holds Try.pinned (OpenSpec.ofChange namesBothWrong)

/-- 'websterlaw08.NamesNew': WHATEVER THE INPUT: true; the input reads as it did. -/
def namesNewSpec : ChangeSpec := { name := "namesNew", fn := fun _ => fun
  | [d1, d2] => { results := [.lit (.bool true)], args := [d1, d2] }
  | _ => none }
def namesNewRow : OpenClaim := { program := "ythooeehobhegbaa", sum := "cb75c8b4fc0d4ad026a5ec0eb89b5c429d9ec27863bd6b8780b69c82287eb747", func := "webster/websterlaw08.NamesNew", spec := "namesNew", unfollowed := true, recurses := true, apart := false }
def NamesNewSaid : Prop := namesNewRow.holds Try.pinned (OpenSpec.ofChange namesNewSpec)

/-- ITS FALSE NEIGHBOUR: 'it returns false'. Refute it at one input. -/
def namesNewWrong : ChangeSpec := { name := "namesNew", fn := fun _ => fun
  | [d1, d2] => { results := [.lit (.bool false)], args := [d1, d2] }
  | _ => none }
def NamesNewWrongFalsely : Prop := namesNewRow.holds Try.pinned (OpenSpec.ofChange namesNewWrong)

/-- 'websterlaw08.NamesLeast': WHATEVER THE INPUT: true; the input reads as it did. -/
def namesLeastSpec : ChangeSpec := { name := "namesLeast", fn := fun _ => fun
  | [d1, d2, d3] => { results := [.lit (.bool true)], args := [d1, d2, d3] }
  | _ => none }
def namesLeastRow : OpenClaim := { program := "ythooeehobhegbaa", sum := "cb75c8b4fc0d4ad026a5ec0eb89b5c429d9ec27863bd6b8780b69c82287eb747", func := "webster/websterlaw08.NamesLeast", spec := "namesLeast", unfollowed := true, recurses := true, apart := false }
def NamesLeastSaid : Prop := namesLeastRow.holds Try.pinned (OpenSpec.ofChange namesLeastSpec)

/-- ITS FALSE NEIGHBOUR: 'it returns false'. Refute it at one input. -/
def namesLeastWrong : ChangeSpec := { name := "namesLeast", fn := fun _ => fun
  | [d1, d2, d3] => { results := [.lit (.bool false)], args := [d1, d2, d3] }
  | _ => none }
def NamesLeastWrongFalsely : Prop := namesLeastRow.holds Try.pinned (OpenSpec.ofChange namesLeastWrong)

/-- 'websterlaw08.NamesMany': WHATEVER THE INPUT: true; the input reads as it did. -/
def namesManySpec : ChangeSpec := { name := "namesMany", fn := fun _ => fun
  | [d1, d2, d3] => { results := [.lit (.bool true)], args := [d1, d2, d3] }
  | _ => none }
def namesManyRow : OpenClaim := { program := "ythooeehobhegbaa", sum := "cb75c8b4fc0d4ad026a5ec0eb89b5c429d9ec27863bd6b8780b69c82287eb747", func := "webster/websterlaw08.NamesMany", spec := "namesMany", unfollowed := true, recurses := true, apart := false }
def NamesManySaid : Prop := namesManyRow.holds Try.pinned (OpenSpec.ofChange namesManySpec)

/-- ITS FALSE NEIGHBOUR: 'it returns false'. Refute it at one input. -/
def namesManyWrong : ChangeSpec := { name := "namesMany", fn := fun _ => fun
  | [d1, d2, d3] => { results := [.lit (.bool false)], args := [d1, d2, d3] }
  | _ => none }
def NamesManyWrongFalsely : Prop := namesManyRow.holds Try.pinned (OpenSpec.ofChange namesManyWrong)

/- THE SECOND FORM. 'bulk': how many values and letters a reading holds, each counted each time it is reached (what is shared counts as often as it is met; a slice's spare places count too). A statement '..UptoSaid' is the law's where the arguments, and the package variables that the reading takes, are together of bulk at most 1048576: NARROWER than '..Said'. Prove '..Said' where nothing that the law and all that it calls make is longer than what came in: it says more and counts as full. Else prove '..UptoSaid'. A law counts once. -/
mutual
def uptoBulk {H : Type} : DataW H → Nat
  | .lit (.string bytes) => bytes.length + 1
  | .lit _ => 1
  | .nil => 1
  | .ptr d => uptoBulk d + 1
  | .slice elems spare => uptoBulkAll elems + uptoBulkAll spare + 1
  | .agg parts => uptoBulkAll parts + 1
  | .iface _ d => uptoBulk d + 1
  | .map entries => uptoBulkEntries entries + 1
  | .held _ => 1
def uptoBulkAll {H : Type} : List (DataW H) → Nat
  | [] => 0
  | d :: r => uptoBulk d + uptoBulkAll r
def uptoBulkEntries {H : Type} : List (Lit × DataW H) → Nat
  | [] => 0
  | x :: r => uptoBulkEntry x + uptoBulkEntries r
def uptoBulkEntry {H : Type} : Lit × DataW H → Nat
  | (.string bytes, d) => bytes.length + uptoBulk d + 1
  | (_, d) => uptoBulk d + 1
 end
def uptoSmall : (H : Type) → List (DataW H) → Bool := fun _ ds => decide (uptoBulkAll ds ≤ 1048576)
def OpenSpec.upto (s : _root_.Go.ChangeSpec) : _root_.Go.OpenSpec := { _root_.Go.OpenSpec.ofChange s with cond := some uptoSmall }

/-- 'websterlaw08.NamesSteps', WHERE WHAT IT READS IS OF BULK AT MOST 1048576: true; the input reads as it did. -/
def namesStepsUptoRow : OpenClaim := { program := "ythooeehobhegbaa", sum := "cb75c8b4fc0d4ad026a5ec0eb89b5c429d9ec27863bd6b8780b69c82287eb747", func := "webster/websterlaw08.NamesSteps", spec := "namesSteps", unfollowed := true, recurses := true, apart := false, narrowed := true }
def NamesStepsUptoSaid : Prop := namesStepsUptoRow.holds Try.pinned (OpenSpec.upto namesStepsSpec)

/-- 'websterlaw08.NamesBoth', WHERE WHAT IT READS IS OF BULK AT MOST 1048576: true; the input reads as it did. -/
def namesBothUptoRow : OpenClaim := { program := "ythooeehobhegbaa", sum := "cb75c8b4fc0d4ad026a5ec0eb89b5c429d9ec27863bd6b8780b69c82287eb747", func := "webster/websterlaw08.NamesBoth", spec := "namesBoth", unfollowed := true, recurses := true, apart := false, narrowed := true }
def NamesBothUptoSaid : Prop := namesBothUptoRow.holds Try.pinned (OpenSpec.upto namesBothSpec)

/-- 'websterlaw08.NamesNew', WHERE WHAT IT READS IS OF BULK AT MOST 1048576: true; the input reads as it did. -/
def namesNewUptoRow : OpenClaim := { program := "ythooeehobhegbaa", sum := "cb75c8b4fc0d4ad026a5ec0eb89b5c429d9ec27863bd6b8780b69c82287eb747", func := "webster/websterlaw08.NamesNew", spec := "namesNew", unfollowed := true, recurses := true, apart := false, narrowed := true }
def NamesNewUptoSaid : Prop := namesNewUptoRow.holds Try.pinned (OpenSpec.upto namesNewSpec)

/-- 'websterlaw08.NamesLeast', WHERE WHAT IT READS IS OF BULK AT MOST 1048576: true; the input reads as it did. -/
def namesLeastUptoRow : OpenClaim := { program := "ythooeehobhegbaa", sum := "cb75c8b4fc0d4ad026a5ec0eb89b5c429d9ec27863bd6b8780b69c82287eb747", func := "webster/websterlaw08.NamesLeast", spec := "namesLeast", unfollowed := true, recurses := true, apart := false, narrowed := true }
def NamesLeastUptoSaid : Prop := namesLeastUptoRow.holds Try.pinned (OpenSpec.upto namesLeastSpec)

/-- 'websterlaw08.NamesMany', WHERE WHAT IT READS IS OF BULK AT MOST 1048576: true; the input reads as it did. -/
def namesManyUptoRow : OpenClaim := { program := "ythooeehobhegbaa", sum := "cb75c8b4fc0d4ad026a5ec0eb89b5c429d9ec27863bd6b8780b69c82287eb747", func := "webster/websterlaw08.NamesMany", spec := "namesMany", unfollowed := true, recurses := true, apart := false, narrowed := true }
def NamesManyUptoSaid : Prop := namesManyUptoRow.holds Try.pinned (OpenSpec.upto namesManySpec)

end Rows
end Go.Proofs.Ythooeehobhegbaa
