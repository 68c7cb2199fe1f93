/-
  No cell of these rows narrows 'for every input' (looked for: loops, veiled, ifaces, maps, wideKeys, modest, calm, conditions, laid).
  DERIVED. THE GIVEN ROWS OF THIS SEAT. 9 by the template 'for every input the law returns true; each argument reads behind the call as it read before'; 0 by the template 'total and deterministic' (their statements: YtmaeoefimkppoaaTotals.lean).
  GIVEN WITH THE SEED: the statements are not yours to turn. If you find one false, say at which input.
  Laid BY PROGRAM, IN A SANDBOX (cutbox-rows.mjs): the forced cells as the released guide's own fill.sh prints them over the translation 9aa57af92853e08f… (all of the seat's roots in one cut). By AI agents, Wed Nov 11 2026. No macro, syntax, notation, axiom, sorry.
-/
import Derived.Test.YtmaeoefimkppoaaChecked
import GoSem.Claim
import GoSem.ClaimJoined
import GoSem.ClaimMapViews
import Derived.JoinedTies
import Derived.KernelRfl
namespace Go.Proofs.Ytmaeoefimkppoaa
/- THE CELL 'sum', in the pinned program and in every row, IS THE sha256 OF THE DUMP (.gsa) THAT YtmaeoefimkppoaaProg.lean LOADS. Nothing in Lean hashes anything: it is a label: what it is worth is what the hold of that sum in a sandbox is worth. -/
noncomputable def Try.pinned : Pinned := { name := "ytmaeoefimkppoaa", sum := "9aa57af92853e08fd94ae9c701e3d2d7f6cb734c8b9463962a89324f905aa13b", checked := Try.checked }
namespace Rows
def none {H : Type} : Left H := { results := [], args := [] }

/-- 'websterlaw10.FlatSteps': WHATEVER THE INPUT: true; the input reads as it did. -/
def flatStepsSpec : ChangeSpec := { name := "flatSteps", fn := fun _ => fun
  | [d] => { results := [.lit (.bool true)], args := [d] }
  | _ => none }
def flatStepsRow : OpenClaim := { program := "ytmaeoefimkppoaa", sum := "9aa57af92853e08fd94ae9c701e3d2d7f6cb734c8b9463962a89324f905aa13b", func := "webster/websterlaw10.FlatSteps", spec := "flatSteps", unfollowed := true, recurses := true, apart := false }
def FlatStepsSaid : Prop := flatStepsRow.holds Try.pinned (OpenSpec.ofChange flatStepsSpec)

/-- ITS FALSE NEIGHBOUR: 'it returns false'. Refute it at one input. -/
def flatStepsWrong : ChangeSpec := { name := "flatSteps", fn := fun _ => fun
  | [d] => { results := [.lit (.bool false)], args := [d] }
  | _ => none }
def FlatStepsWrongFalsely : Prop := flatStepsRow.holds Try.pinned (OpenSpec.ofChange flatStepsWrong)

/-- 'websterlaw10.FlatLoads': WHATEVER THE INPUT: true; the input reads as it did. -/
def flatLoadsSpec : ChangeSpec := { name := "flatLoads", fn := fun _ => fun
  | [d] => { results := [.lit (.bool true)], args := [d] }
  | _ => none }
def flatLoadsRow : OpenClaim := { program := "ytmaeoefimkppoaa", sum := "9aa57af92853e08fd94ae9c701e3d2d7f6cb734c8b9463962a89324f905aa13b", func := "webster/websterlaw10.FlatLoads", spec := "flatLoads", unfollowed := true, recurses := true, apart := false }
def FlatLoadsSaid : Prop := flatLoadsRow.holds Try.pinned (OpenSpec.ofChange flatLoadsSpec)

/-- ITS FALSE NEIGHBOUR: 'it returns false'. Refute it at one input. -/
def flatLoadsWrong : ChangeSpec := { name := "flatLoads", fn := fun _ => fun
  | [d] => { results := [.lit (.bool false)], args := [d] }
  | _ => none }
def FlatLoadsWrongFalsely : Prop := flatLoadsRow.holds Try.pinned (OpenSpec.ofChange flatLoadsWrong)

/-- 'websterlaw10.FlatBecomes': WHATEVER THE INPUT: true; the input reads as it did. -/
def flatBecomesSpec : ChangeSpec := { name := "flatBecomes", fn := fun _ => fun
  | [d1, d2, d3] => { results := [.lit (.bool true)], args := [d1, d2, d3] }
  | _ => none }
def flatBecomesRow : OpenClaim := { program := "ytmaeoefimkppoaa", sum := "9aa57af92853e08fd94ae9c701e3d2d7f6cb734c8b9463962a89324f905aa13b", func := "webster/websterlaw10.FlatBecomes", spec := "flatBecomes", unfollowed := true, recurses := true, apart := false }
def FlatBecomesSaid : Prop := flatBecomesRow.holds Try.pinned (OpenSpec.ofChange flatBecomesSpec)

/-- ITS FALSE NEIGHBOUR: 'it returns false'. Refute it at one input. -/
def flatBecomesWrong : ChangeSpec := { name := "flatBecomes", fn := fun _ => fun
  | [d1, d2, d3] => { results := [.lit (.bool false)], args := [d1, d2, d3] }
  | _ => none }
def FlatBecomesWrongFalsely : Prop := flatBecomesRow.holds Try.pinned (OpenSpec.ofChange flatBecomesWrong)

/-- 'websterlaw10.FlatNews': WHATEVER THE INPUT: true; the input reads as it did. -/
def flatNewsSpec : ChangeSpec := { name := "flatNews", fn := fun _ => fun
  | [d1, d2, d3, d4] => { results := [.lit (.bool true)], args := [d1, d2, d3, d4] }
  | _ => none }
def flatNewsRow : OpenClaim := { program := "ytmaeoefimkppoaa", sum := "9aa57af92853e08fd94ae9c701e3d2d7f6cb734c8b9463962a89324f905aa13b", func := "webster/websterlaw10.FlatNews", spec := "flatNews", unfollowed := true, recurses := true, apart := false }
def FlatNewsSaid : Prop := flatNewsRow.holds Try.pinned (OpenSpec.ofChange flatNewsSpec)

/-- ITS FALSE NEIGHBOUR: 'it returns false'. Refute it at one input. -/
def flatNewsWrong : ChangeSpec := { name := "flatNews", fn := fun _ => fun
  | [d1, d2, d3, d4] => { results := [.lit (.bool false)], args := [d1, d2, d3, d4] }
  | _ => none }
def FlatNewsWrongFalsely : Prop := flatNewsRow.holds Try.pinned (OpenSpec.ofChange flatNewsWrong)

/-- 'websterlaw10.FlatSets': WHATEVER THE INPUT: true; the input reads as it did. -/
def flatSetsSpec : ChangeSpec := { name := "flatSets", fn := fun _ => fun
  | [d1, d2, d3] => { results := [.lit (.bool true)], args := [d1, d2, d3] }
  | _ => none }
def flatSetsRow : OpenClaim := { program := "ytmaeoefimkppoaa", sum := "9aa57af92853e08fd94ae9c701e3d2d7f6cb734c8b9463962a89324f905aa13b", func := "webster/websterlaw10.FlatSets", spec := "flatSets", unfollowed := true, recurses := true, apart := false }
def FlatSetsSaid : Prop := flatSetsRow.holds Try.pinned (OpenSpec.ofChange flatSetsSpec)

/-- ITS FALSE NEIGHBOUR: 'it returns false'. Refute it at one input. -/
def flatSetsWrong : ChangeSpec := { name := "flatSets", fn := fun _ => fun
  | [d1, d2, d3] => { results := [.lit (.bool false)], args := [d1, d2, d3] }
  | _ => none }
def FlatSetsWrongFalsely : Prop := flatSetsRow.holds Try.pinned (OpenSpec.ofChange flatSetsWrong)

/-- 'websterlaw10.FlatBytes': WHATEVER THE INPUT: true; the input reads as it did. -/
def flatBytesSpec : ChangeSpec := { name := "flatBytes", fn := fun _ => fun
  | [d1, d2, d3] => { results := [.lit (.bool true)], args := [d1, d2, d3] }
  | _ => none }
def flatBytesRow : OpenClaim := { program := "ytmaeoefimkppoaa", sum := "9aa57af92853e08fd94ae9c701e3d2d7f6cb734c8b9463962a89324f905aa13b", func := "webster/websterlaw10.FlatBytes", spec := "flatBytes", unfollowed := true, recurses := true, apart := false }
def FlatBytesSaid : Prop := flatBytesRow.holds Try.pinned (OpenSpec.ofChange flatBytesSpec)

/-- ITS FALSE NEIGHBOUR: 'it returns false'. Refute it at one input. -/
def flatBytesWrong : ChangeSpec := { name := "flatBytes", fn := fun _ => fun
  | [d1, d2, d3] => { results := [.lit (.bool false)], args := [d1, d2, d3] }
  | _ => none }
def FlatBytesWrongFalsely : Prop := flatBytesRow.holds Try.pinned (OpenSpec.ofChange flatBytesWrong)

/-- 'websterlaw10.FlatNext': WHATEVER THE INPUT: true; the input reads as it did. -/
def flatNextSpec : ChangeSpec := { name := "flatNext", fn := fun _ => fun
  | [d] => { results := [.lit (.bool true)], args := [d] }
  | _ => none }
def flatNextRow : OpenClaim := { program := "ytmaeoefimkppoaa", sum := "9aa57af92853e08fd94ae9c701e3d2d7f6cb734c8b9463962a89324f905aa13b", func := "webster/websterlaw10.FlatNext", spec := "flatNext", unfollowed := true, recurses := true, apart := false }
def FlatNextSaid : Prop := flatNextRow.holds Try.pinned (OpenSpec.ofChange flatNextSpec)

/-- ITS FALSE NEIGHBOUR: 'it returns false'. Refute it at one input. -/
def flatNextWrong : ChangeSpec := { name := "flatNext", fn := fun _ => fun
  | [d] => { results := [.lit (.bool false)], args := [d] }
  | _ => none }
def FlatNextWrongFalsely : Prop := flatNextRow.holds Try.pinned (OpenSpec.ofChange flatNextWrong)

/-- 'websterlaw10.FlatCollects': WHATEVER THE INPUT: true; the input reads as it did. -/
def flatCollectsSpec : ChangeSpec := { name := "flatCollects", fn := fun _ => fun
  | [d1, d2] => { results := [.lit (.bool true)], args := [d1, d2] }
  | _ => none }
def flatCollectsRow : OpenClaim := { program := "ytmaeoefimkppoaa", sum := "9aa57af92853e08fd94ae9c701e3d2d7f6cb734c8b9463962a89324f905aa13b", func := "webster/websterlaw10.FlatCollects", spec := "flatCollects", unfollowed := true, recurses := true, apart := false }
def FlatCollectsSaid : Prop := flatCollectsRow.holds Try.pinned (OpenSpec.ofChange flatCollectsSpec)

/-- ITS FALSE NEIGHBOUR: 'it returns false'. Refute it at one input. -/
def flatCollectsWrong : ChangeSpec := { name := "flatCollects", fn := fun _ => fun
  | [d1, d2] => { results := [.lit (.bool false)], args := [d1, d2] }
  | _ => none }
def FlatCollectsWrongFalsely : Prop := flatCollectsRow.holds Try.pinned (OpenSpec.ofChange flatCollectsWrong)

/-- 'websterlaw10.FlatBlanks': WHATEVER THE INPUT: true; the input reads as it did. -/
def flatBlanksSpec : ChangeSpec := { name := "flatBlanks", fn := fun _ => fun
  | [d1, d2, d3, d4] => { results := [.lit (.bool true)], args := [d1, d2, d3, d4] }
  | _ => none }
def flatBlanksRow : OpenClaim := { program := "ytmaeoefimkppoaa", sum := "9aa57af92853e08fd94ae9c701e3d2d7f6cb734c8b9463962a89324f905aa13b", func := "webster/websterlaw10.FlatBlanks", spec := "flatBlanks", unfollowed := true, recurses := true, apart := false }
def FlatBlanksSaid : Prop := flatBlanksRow.holds Try.pinned (OpenSpec.ofChange flatBlanksSpec)

/-- ITS FALSE NEIGHBOUR: 'it returns false'. Refute it at one input. -/
def flatBlanksWrong : ChangeSpec := { name := "flatBlanks", fn := fun _ => fun
  | [d1, d2, d3, d4] => { results := [.lit (.bool false)], args := [d1, d2, d3, d4] }
  | _ => none }
def FlatBlanksWrongFalsely : Prop := flatBlanksRow.holds Try.pinned (OpenSpec.ofChange flatBlanksWrong)

/- THE SECOND FORM. 'bulk': how many values and letters a reading holds, each counted each time it is reached (what is shared counts as often as it is met; a slice's spare places count too). A statement '..UptoSaid' is the law's where the arguments, and the package variables that the reading takes, are together of bulk at most 1048576: NARROWER than '..Said'. Prove '..Said' where nothing that the law and all that it calls make is longer than what came in: it says more and counts as full. Else prove '..UptoSaid'. A law counts once. -/
mutual
def uptoBulk {H : Type} : DataW H → Nat
  | .lit (.string bytes) => bytes.length + 1
  | .lit _ => 1
  | .nil => 1
  | .ptr d => uptoBulk d + 1
  | .slice elems spare => uptoBulkAll elems + uptoBulkAll spare + 1
  | .agg parts => uptoBulkAll parts + 1
  | .iface _ d => uptoBulk d + 1
  | .map entries => uptoBulkEntries entries + 1
  | .held _ => 1
def uptoBulkAll {H : Type} : List (DataW H) → Nat
  | [] => 0
  | d :: r => uptoBulk d + uptoBulkAll r
def uptoBulkEntries {H : Type} : List (Lit × DataW H) → Nat
  | [] => 0
  | x :: r => uptoBulkEntry x + uptoBulkEntries r
def uptoBulkEntry {H : Type} : Lit × DataW H → Nat
  | (.string bytes, d) => bytes.length + uptoBulk d + 1
  | (_, d) => uptoBulk d + 1
 end
def uptoSmall : (H : Type) → List (DataW H) → Bool := fun _ ds => decide (uptoBulkAll ds ≤ 1048576)
def OpenSpec.upto (s : _root_.Go.ChangeSpec) : _root_.Go.OpenSpec := { _root_.Go.OpenSpec.ofChange s with cond := some uptoSmall }

/-- 'websterlaw10.FlatSteps', WHERE WHAT IT READS IS OF BULK AT MOST 1048576: true; the input reads as it did. -/
def flatStepsUptoRow : OpenClaim := { program := "ytmaeoefimkppoaa", sum := "9aa57af92853e08fd94ae9c701e3d2d7f6cb734c8b9463962a89324f905aa13b", func := "webster/websterlaw10.FlatSteps", spec := "flatSteps", unfollowed := true, recurses := true, apart := false, narrowed := true }
def FlatStepsUptoSaid : Prop := flatStepsUptoRow.holds Try.pinned (OpenSpec.upto flatStepsSpec)

/-- 'websterlaw10.FlatLoads', WHERE WHAT IT READS IS OF BULK AT MOST 1048576: true; the input reads as it did. -/
def flatLoadsUptoRow : OpenClaim := { program := "ytmaeoefimkppoaa", sum := "9aa57af92853e08fd94ae9c701e3d2d7f6cb734c8b9463962a89324f905aa13b", func := "webster/websterlaw10.FlatLoads", spec := "flatLoads", unfollowed := true, recurses := true, apart := false, narrowed := true }
def FlatLoadsUptoSaid : Prop := flatLoadsUptoRow.holds Try.pinned (OpenSpec.upto flatLoadsSpec)

/-- 'websterlaw10.FlatBecomes', WHERE WHAT IT READS IS OF BULK AT MOST 1048576: true; the input reads as it did. -/
def flatBecomesUptoRow : OpenClaim := { program := "ytmaeoefimkppoaa", sum := "9aa57af92853e08fd94ae9c701e3d2d7f6cb734c8b9463962a89324f905aa13b", func := "webster/websterlaw10.FlatBecomes", spec := "flatBecomes", unfollowed := true, recurses := true, apart := false, narrowed := true }
def FlatBecomesUptoSaid : Prop := flatBecomesUptoRow.holds Try.pinned (OpenSpec.upto flatBecomesSpec)

/-- 'websterlaw10.FlatNews', WHERE WHAT IT READS IS OF BULK AT MOST 1048576: true; the input reads as it did. -/
def flatNewsUptoRow : OpenClaim := { program := "ytmaeoefimkppoaa", sum := "9aa57af92853e08fd94ae9c701e3d2d7f6cb734c8b9463962a89324f905aa13b", func := "webster/websterlaw10.FlatNews", spec := "flatNews", unfollowed := true, recurses := true, apart := false, narrowed := true }
def FlatNewsUptoSaid : Prop := flatNewsUptoRow.holds Try.pinned (OpenSpec.upto flatNewsSpec)

/-- 'websterlaw10.FlatSets', WHERE WHAT IT READS IS OF BULK AT MOST 1048576: true; the input reads as it did. -/
def flatSetsUptoRow : OpenClaim := { program := "ytmaeoefimkppoaa", sum := "9aa57af92853e08fd94ae9c701e3d2d7f6cb734c8b9463962a89324f905aa13b", func := "webster/websterlaw10.FlatSets", spec := "flatSets", unfollowed := true, recurses := true, apart := false, narrowed := true }
def FlatSetsUptoSaid : Prop := flatSetsUptoRow.holds Try.pinned (OpenSpec.upto flatSetsSpec)

/-- 'websterlaw10.FlatBytes', WHERE WHAT IT READS IS OF BULK AT MOST 1048576: true; the input reads as it did. -/
def flatBytesUptoRow : OpenClaim := { program := "ytmaeoefimkppoaa", sum := "9aa57af92853e08fd94ae9c701e3d2d7f6cb734c8b9463962a89324f905aa13b", func := "webster/websterlaw10.FlatBytes", spec := "flatBytes", unfollowed := true, recurses := true, apart := false, narrowed := true }
def FlatBytesUptoSaid : Prop := flatBytesUptoRow.holds Try.pinned (OpenSpec.upto flatBytesSpec)

/-- 'websterlaw10.FlatNext', WHERE WHAT IT READS IS OF BULK AT MOST 1048576: true; the input reads as it did. -/
def flatNextUptoRow : OpenClaim := { program := "ytmaeoefimkppoaa", sum := "9aa57af92853e08fd94ae9c701e3d2d7f6cb734c8b9463962a89324f905aa13b", func := "webster/websterlaw10.FlatNext", spec := "flatNext", unfollowed := true, recurses := true, apart := false, narrowed := true }
def FlatNextUptoSaid : Prop := flatNextUptoRow.holds Try.pinned (OpenSpec.upto flatNextSpec)

/-- 'websterlaw10.FlatCollects', WHERE WHAT IT READS IS OF BULK AT MOST 1048576: true; the input reads as it did. -/
def flatCollectsUptoRow : OpenClaim := { program := "ytmaeoefimkppoaa", sum := "9aa57af92853e08fd94ae9c701e3d2d7f6cb734c8b9463962a89324f905aa13b", func := "webster/websterlaw10.FlatCollects", spec := "flatCollects", unfollowed := true, recurses := true, apart := false, narrowed := true }
def FlatCollectsUptoSaid : Prop := flatCollectsUptoRow.holds Try.pinned (OpenSpec.upto flatCollectsSpec)

/-- 'websterlaw10.FlatBlanks', WHERE WHAT IT READS IS OF BULK AT MOST 1048576: true; the input reads as it did. -/
def flatBlanksUptoRow : OpenClaim := { program := "ytmaeoefimkppoaa", sum := "9aa57af92853e08fd94ae9c701e3d2d7f6cb734c8b9463962a89324f905aa13b", func := "webster/websterlaw10.FlatBlanks", spec := "flatBlanks", unfollowed := true, recurses := true, apart := false, narrowed := true }
def FlatBlanksUptoSaid : Prop := flatBlanksUptoRow.holds Try.pinned (OpenSpec.upto flatBlanksSpec)

end Rows
end Go.Proofs.Ytmaeoefimkppoaa
