/-
  NARROWER THAN 'FOR EVERY INPUT', by the rows' own cells (each row's printed sentence says how): CodeReads: laid · CodeAll: laid · CodeWrites: laid · CodeBack: laid · CodeJumps: laid · CodeLong: laid · CodeCut: laid · CodeOne: laid.
  DERIVED. THE GIVEN ROWS OF THIS SEAT. 8 by the template 'for every input the law returns true; each argument reads behind the call as it read before'; 0 by the template 'total and deterministic' (their statements: YtmcikjihkgplaaaDoorTotals.lean).
  GIVEN WITH THE SEED: the statements are not yours to turn. If you find one false, say at which input.
  Laid BY PROGRAM, IN A SANDBOX (cutbox-rows.mjs): the forced cells as the released guide's own fill.sh prints them over the translation 3959a735b4ec6ab0… (all of the seat's roots in one cut). By AI agents, Wed Nov 11 2026. No macro, syntax, notation, axiom, sorry.
-/
import Derived.Test.YtmcikjihkgplaaaDoorChecked
import GoSem.Claim
import GoSem.ClaimJoined
import GoSem.ClaimMapViews
import Derived.JoinedTies
import Derived.KernelRfl
namespace Go.Proofs.YtmcikjihkgplaaaDoor
/- THE CELL 'sum', in the pinned program and in every row, IS THE sha256 OF THE DUMP (.gsa) THAT YtmcikjihkgplaaaDoorProg.lean LOADS. Nothing in Lean hashes anything: it is a label: what it is worth is what the hold of that sum in a sandbox is worth. -/
noncomputable def Tryd.pinned : Pinned := { name := "ytmcikjihkgplaaadoor", sum := "3959a735b4ec6ab0a30ad0e78b99bad6ba6864070965a9ef904ff363be446347", checked := Tryd.checked }
namespace Rows
def none {H : Type} : Left H := { results := [], args := [] }

/- WHAT THE LISTED PACKAGE-LEVEL VARIABLES READ AS WHEN THE CALL BEGINS. Each datum BY PROGRAM (the guide's laid-datum.mjs) off the statement by which the dump's own 'gosem.cut.vars' lays the variable. In a bare row this is a premise. The card (YtmcikjihkgplaaaDoorCards.lean) ties it to the program's text. -/
def laid_webster_code_quarters {H : Type} : DataW H := .agg [.agg [.lit (.int .i64 1), .lit (.int .i64 2), .lit (.int .i64 3), .lit (.int .i64 4)], .agg [.lit (.int .i64 5), .lit (.int .i64 6), .lit (.int .i64 0), .lit (.int .i64 7)], .agg [.lit (.int .i64 8), .lit (.int .i64 9), .lit (.int .i64 0), .lit (.int .i64 10)]]
def laid_webster_code_oops {H : Type} : DataW H := .agg [.lit (.int .i64 4), .lit (.int .i64 6), .lit (.int .i64 2), .lit (.int .i64 (-1)), .lit (.int .i64 1), .lit (.int .i64 3), .lit (.int .i64 5)]
def laid_webster_code_heads {H : Type} : DataW H := .agg [.agg [.lit (.int .i64 0), .lit (.int .i64 0), .lit (.int .i64 0), .lit (.int .i64 0)], .agg [.lit (.int .i64 0), .lit (.int .i64 128), .lit (.int .i64 0), .lit (.int .i64 0)], .agg [.lit (.int .i64 16), .lit (.int .i64 128), .lit (.int .i64 64), .lit (.int .i64 0)], .agg [.lit (.int .i64 32), .lit (.int .i64 128), .lit (.int .i64 128), .lit (.int .i64 0)], .agg [.lit (.int .i64 64), .lit (.int .i64 128), .lit (.int .i64 192), .lit (.int .i64 0)], .agg [.lit (.int .i64 0), .lit (.int .i64 129), .lit (.int .i64 0), .lit (.int .i64 0)], .agg [.lit (.int .i64 0), .lit (.int .i64 129), .lit (.int .i64 64), .lit (.int .i64 0)], .agg [.lit (.int .i64 0), .lit (.int .i64 129), .lit (.int .i64 192), .lit (.int .i64 0)], .agg [.lit (.int .i64 96), .lit (.int .i64 130), .lit (.int .i64 0), .lit (.int .i64 0)], .agg [.lit (.int .i64 104), .lit (.int .i64 130), .lit (.int .i64 64), .lit (.int .i64 0)], .agg [.lit (.int .i64 0), .lit (.int .i64 130), .lit (.int .i64 192), .lit (.int .i64 0)], .agg [.lit (.int .i64 112), .lit (.int .i64 0), .lit (.int .i64 0), .lit (.int .i64 0)], .agg [.lit (.int .i64 113), .lit (.int .i64 0), .lit (.int .i64 0), .lit (.int .i64 0)], .agg [.lit (.int .i64 120), .lit (.int .i64 0), .lit (.int .i64 0), .lit (.int .i64 0)], .agg [.lit (.int .i64 121), .lit (.int .i64 0), .lit (.int .i64 0), .lit (.int .i64 0)], .agg [.lit (.int .i64 124), .lit (.int .i64 0), .lit (.int .i64 0), .lit (.int .i64 0)], .agg [.lit (.int .i64 125), .lit (.int .i64 0), .lit (.int .i64 0), .lit (.int .i64 0)], .agg [.lit (.int .i64 208), .lit (.int .i64 131), .lit (.int .i64 0), .lit (.int .i64 132)], .agg [.lit (.int .i64 0), .lit (.int .i64 133), .lit (.int .i64 0), .lit (.int .i64 134)], .agg [.lit (.int .i64 135), .lit (.int .i64 0), .lit (.int .i64 0), .lit (.int .i64 0)], .agg [.lit (.int .i64 136), .lit (.int .i64 0), .lit (.int .i64 0), .lit (.int .i64 0)], .agg [.lit (.int .i64 137), .lit (.int .i64 0), .lit (.int .i64 0), .lit (.int .i64 0)], .agg [.lit (.int .i64 144), .lit (.int .i64 164), .lit (.int .i64 0), .lit (.int .i64 0)], .agg [.lit (.int .i64 0), .lit (.int .i64 168), .lit (.int .i64 0), .lit (.int .i64 0)], .agg [.lit (.int .i64 152), .lit (.int .i64 172), .lit (.int .i64 0), .lit (.int .i64 0)], .agg [.lit (.int .i64 176), .lit (.int .i64 0), .lit (.int .i64 0), .lit (.int .i64 0)], .agg [.lit (.int .i64 192), .lit (.int .i64 0), .lit (.int .i64 0), .lit (.int .i64 0)]]

/-- 'websterlaw12.CodeReads': WHATEVER THE INPUT: true; the input reads as it did. -/
def codeReadsSpec : ChangeSpec := { name := "codeReads", fn := fun _ => fun
  | [d1, d2] => { results := [.lit (.bool true)], args := [d1, d2] }
  | _ => none }
def codeReadsRow : OpenClaim := { program := "ytmcikjihkgplaaadoor", sum := "3959a735b4ec6ab0a30ad0e78b99bad6ba6864070965a9ef904ff363be446347", func := "webster/websterlaw12.CodeReads", spec := "codeReads", named := ["webster/code.oops", "webster/code.quarters", "webster/code.heads"], apart := false, laid := [("webster/code.quarters", laid_webster_code_quarters), ("webster/code.oops", laid_webster_code_oops), ("webster/code.heads", laid_webster_code_heads)] }
def CodeReadsSaid : Prop := codeReadsRow.holds Tryd.pinned (OpenSpec.ofChange codeReadsSpec)

/-- ITS FALSE NEIGHBOUR: 'it returns false'. Refute it at one input. -/
def codeReadsWrong : ChangeSpec := { name := "codeReads", fn := fun _ => fun
  | [d1, d2] => { results := [.lit (.bool false)], args := [d1, d2] }
  | _ => none }
def CodeReadsWrongFalsely : Prop := codeReadsRow.holds Tryd.pinned (OpenSpec.ofChange codeReadsWrong)

/-- 'websterlaw12.CodeAll': WHATEVER THE INPUT: true; the input reads as it did. -/
def codeAllSpec : ChangeSpec := { name := "codeAll", fn := fun _ => fun
  | [d1, d2] => { results := [.lit (.bool true)], args := [d1, d2] }
  | _ => none }
def codeAllRow : OpenClaim := { program := "ytmcikjihkgplaaadoor", sum := "3959a735b4ec6ab0a30ad0e78b99bad6ba6864070965a9ef904ff363be446347", func := "webster/websterlaw12.CodeAll", spec := "codeAll", named := ["webster/code.oops", "webster/code.quarters", "webster/code.heads"], apart := false, laid := [("webster/code.quarters", laid_webster_code_quarters), ("webster/code.oops", laid_webster_code_oops), ("webster/code.heads", laid_webster_code_heads)] }
def CodeAllSaid : Prop := codeAllRow.holds Tryd.pinned (OpenSpec.ofChange codeAllSpec)

/-- ITS FALSE NEIGHBOUR: 'it returns false'. Refute it at one input. -/
def codeAllWrong : ChangeSpec := { name := "codeAll", fn := fun _ => fun
  | [d1, d2] => { results := [.lit (.bool false)], args := [d1, d2] }
  | _ => none }
def CodeAllWrongFalsely : Prop := codeAllRow.holds Tryd.pinned (OpenSpec.ofChange codeAllWrong)

/-- 'websterlaw12.CodeWrites': WHATEVER THE INPUT: true; the input reads as it did. -/
def codeWritesSpec : ChangeSpec := { name := "codeWrites", fn := fun _ => fun
  | [d] => { results := [.lit (.bool true)], args := [d] }
  | _ => none }
def codeWritesRow : OpenClaim := { program := "ytmcikjihkgplaaadoor", sum := "3959a735b4ec6ab0a30ad0e78b99bad6ba6864070965a9ef904ff363be446347", func := "webster/websterlaw12.CodeWrites", spec := "codeWrites", named := ["webster/code.oops", "webster/code.quarters", "webster/code.heads"], apart := false, laid := [("webster/code.quarters", laid_webster_code_quarters), ("webster/code.oops", laid_webster_code_oops), ("webster/code.heads", laid_webster_code_heads)] }
def CodeWritesSaid : Prop := codeWritesRow.holds Tryd.pinned (OpenSpec.ofChange codeWritesSpec)

/-- ITS FALSE NEIGHBOUR: 'it returns false'. Refute it at one input. -/
def codeWritesWrong : ChangeSpec := { name := "codeWrites", fn := fun _ => fun
  | [d] => { results := [.lit (.bool false)], args := [d] }
  | _ => none }
def CodeWritesWrongFalsely : Prop := codeWritesRow.holds Tryd.pinned (OpenSpec.ofChange codeWritesWrong)

/-- 'websterlaw12.CodeBack': WHATEVER THE INPUT: true; the input reads as it did. -/
def codeBackSpec : ChangeSpec := { name := "codeBack", fn := fun _ => fun
  | [d] => { results := [.lit (.bool true)], args := [d] }
  | _ => none }
def codeBackRow : OpenClaim := { program := "ytmcikjihkgplaaadoor", sum := "3959a735b4ec6ab0a30ad0e78b99bad6ba6864070965a9ef904ff363be446347", func := "webster/websterlaw12.CodeBack", spec := "codeBack", named := ["webster/code.oops", "webster/code.quarters", "webster/code.heads"], apart := false, laid := [("webster/code.quarters", laid_webster_code_quarters), ("webster/code.oops", laid_webster_code_oops), ("webster/code.heads", laid_webster_code_heads)] }
def CodeBackSaid : Prop := codeBackRow.holds Tryd.pinned (OpenSpec.ofChange codeBackSpec)

/-- ITS FALSE NEIGHBOUR: 'it returns false'. Refute it at one input. -/
def codeBackWrong : ChangeSpec := { name := "codeBack", fn := fun _ => fun
  | [d] => { results := [.lit (.bool false)], args := [d] }
  | _ => none }
def CodeBackWrongFalsely : Prop := codeBackRow.holds Tryd.pinned (OpenSpec.ofChange codeBackWrong)

/-- 'websterlaw12.CodeJumps': WHATEVER THE INPUT: true; the input reads as it did. -/
def codeJumpsSpec : ChangeSpec := { name := "codeJumps", fn := fun _ => fun
  | [d] => { results := [.lit (.bool true)], args := [d] }
  | _ => none }
def codeJumpsRow : OpenClaim := { program := "ytmcikjihkgplaaadoor", sum := "3959a735b4ec6ab0a30ad0e78b99bad6ba6864070965a9ef904ff363be446347", func := "webster/websterlaw12.CodeJumps", spec := "codeJumps", named := ["webster/code.oops", "webster/code.quarters", "webster/code.heads"], apart := false, laid := [("webster/code.quarters", laid_webster_code_quarters), ("webster/code.oops", laid_webster_code_oops), ("webster/code.heads", laid_webster_code_heads)] }
def CodeJumpsSaid : Prop := codeJumpsRow.holds Tryd.pinned (OpenSpec.ofChange codeJumpsSpec)

/-- ITS FALSE NEIGHBOUR: 'it returns false'. Refute it at one input. -/
def codeJumpsWrong : ChangeSpec := { name := "codeJumps", fn := fun _ => fun
  | [d] => { results := [.lit (.bool false)], args := [d] }
  | _ => none }
def CodeJumpsWrongFalsely : Prop := codeJumpsRow.holds Tryd.pinned (OpenSpec.ofChange codeJumpsWrong)

/-- 'websterlaw12.CodeLong': WHATEVER THE INPUT: true; the input reads as it did. -/
def codeLongSpec : ChangeSpec := { name := "codeLong", fn := fun _ => fun
  | [d] => { results := [.lit (.bool true)], args := [d] }
  | _ => none }
def codeLongRow : OpenClaim := { program := "ytmcikjihkgplaaadoor", sum := "3959a735b4ec6ab0a30ad0e78b99bad6ba6864070965a9ef904ff363be446347", func := "webster/websterlaw12.CodeLong", spec := "codeLong", named := ["webster/code.oops", "webster/code.quarters", "webster/code.heads"], apart := false, laid := [("webster/code.quarters", laid_webster_code_quarters), ("webster/code.oops", laid_webster_code_oops), ("webster/code.heads", laid_webster_code_heads)] }
def CodeLongSaid : Prop := codeLongRow.holds Tryd.pinned (OpenSpec.ofChange codeLongSpec)

/-- ITS FALSE NEIGHBOUR: 'it returns false'. Refute it at one input. -/
def codeLongWrong : ChangeSpec := { name := "codeLong", fn := fun _ => fun
  | [d] => { results := [.lit (.bool false)], args := [d] }
  | _ => none }
def CodeLongWrongFalsely : Prop := codeLongRow.holds Tryd.pinned (OpenSpec.ofChange codeLongWrong)

/-- 'websterlaw12.CodeCut': WHATEVER THE INPUT: true; the input reads as it did. -/
def codeCutSpec : ChangeSpec := { name := "codeCut", fn := fun _ => fun
  | [d1, d2] => { results := [.lit (.bool true)], args := [d1, d2] }
  | _ => none }
def codeCutRow : OpenClaim := { program := "ytmcikjihkgplaaadoor", sum := "3959a735b4ec6ab0a30ad0e78b99bad6ba6864070965a9ef904ff363be446347", func := "webster/websterlaw12.CodeCut", spec := "codeCut", named := ["webster/code.oops", "webster/code.quarters", "webster/code.heads"], apart := false, laid := [("webster/code.quarters", laid_webster_code_quarters), ("webster/code.oops", laid_webster_code_oops), ("webster/code.heads", laid_webster_code_heads)] }
def CodeCutSaid : Prop := codeCutRow.holds Tryd.pinned (OpenSpec.ofChange codeCutSpec)

/-- ITS FALSE NEIGHBOUR: 'it returns false'. Refute it at one input. -/
def codeCutWrong : ChangeSpec := { name := "codeCut", fn := fun _ => fun
  | [d1, d2] => { results := [.lit (.bool false)], args := [d1, d2] }
  | _ => none }
def CodeCutWrongFalsely : Prop := codeCutRow.holds Tryd.pinned (OpenSpec.ofChange codeCutWrong)

/-- 'websterlaw12.CodeOne': WHATEVER THE INPUT: true; the input reads as it did. -/
def codeOneSpec : ChangeSpec := { name := "codeOne", fn := fun _ => fun
  | [d1, d2, d3] => { results := [.lit (.bool true)], args := [d1, d2, d3] }
  | _ => none }
def codeOneRow : OpenClaim := { program := "ytmcikjihkgplaaadoor", sum := "3959a735b4ec6ab0a30ad0e78b99bad6ba6864070965a9ef904ff363be446347", func := "webster/websterlaw12.CodeOne", spec := "codeOne", named := ["webster/code.heads", "webster/code.oops", "webster/code.quarters"], apart := false, laid := [("webster/code.quarters", laid_webster_code_quarters), ("webster/code.oops", laid_webster_code_oops), ("webster/code.heads", laid_webster_code_heads)] }
def CodeOneSaid : Prop := codeOneRow.holds Tryd.pinned (OpenSpec.ofChange codeOneSpec)

/-- ITS FALSE NEIGHBOUR: 'it returns false'. Refute it at one input. -/
def codeOneWrong : ChangeSpec := { name := "codeOne", fn := fun _ => fun
  | [d1, d2, d3] => { results := [.lit (.bool false)], args := [d1, d2, d3] }
  | _ => none }
def CodeOneWrongFalsely : Prop := codeOneRow.holds Tryd.pinned (OpenSpec.ofChange codeOneWrong)

/- THE SECOND FORM. 'bulk': how many values and letters a reading holds, each counted each time it is reached (what is shared counts as often as it is met; a slice's spare places count too). A statement '..UptoSaid' is the law's where the arguments, and the package variables that the reading takes, are together of bulk at most 1048576: NARROWER than '..Said'. Prove '..Said' where nothing that the law and all that it calls make is longer than what came in: it says more and counts as full. Else prove '..UptoSaid'. A law counts once. -/
mutual
def uptoBulk {H : Type} : DataW H → Nat
  | .lit (.string bytes) => bytes.length + 1
  | .lit _ => 1
  | .nil => 1
  | .ptr d => uptoBulk d + 1
  | .slice elems spare => uptoBulkAll elems + uptoBulkAll spare + 1
  | .agg parts => uptoBulkAll parts + 1
  | .iface _ d => uptoBulk d + 1
  | .map entries => uptoBulkEntries entries + 1
  | .held _ => 1
def uptoBulkAll {H : Type} : List (DataW H) → Nat
  | [] => 0
  | d :: r => uptoBulk d + uptoBulkAll r
def uptoBulkEntries {H : Type} : List (Lit × DataW H) → Nat
  | [] => 0
  | x :: r => uptoBulkEntry x + uptoBulkEntries r
def uptoBulkEntry {H : Type} : Lit × DataW H → Nat
  | (.string bytes, d) => bytes.length + uptoBulk d + 1
  | (_, d) => uptoBulk d + 1
 end
def uptoSmall : (H : Type) → List (DataW H) → Bool := fun _ ds => decide (uptoBulkAll ds ≤ 1048576)
def OpenSpec.upto (s : _root_.Go.ChangeSpec) : _root_.Go.OpenSpec := { _root_.Go.OpenSpec.ofChange s with cond := some uptoSmall }

/-- 'websterlaw12.CodeReads', WHERE WHAT IT READS IS OF BULK AT MOST 1048576: true; the input reads as it did. -/
def codeReadsUptoRow : OpenClaim := { program := "ytmcikjihkgplaaadoor", sum := "3959a735b4ec6ab0a30ad0e78b99bad6ba6864070965a9ef904ff363be446347", func := "webster/websterlaw12.CodeReads", spec := "codeReads", named := ["webster/code.oops", "webster/code.quarters", "webster/code.heads"], apart := false, laid := [("webster/code.quarters", laid_webster_code_quarters), ("webster/code.oops", laid_webster_code_oops), ("webster/code.heads", laid_webster_code_heads)], narrowed := true }
def CodeReadsUptoSaid : Prop := codeReadsUptoRow.holds Tryd.pinned (OpenSpec.upto codeReadsSpec)

/-- 'websterlaw12.CodeAll', WHERE WHAT IT READS IS OF BULK AT MOST 1048576: true; the input reads as it did. -/
def codeAllUptoRow : OpenClaim := { program := "ytmcikjihkgplaaadoor", sum := "3959a735b4ec6ab0a30ad0e78b99bad6ba6864070965a9ef904ff363be446347", func := "webster/websterlaw12.CodeAll", spec := "codeAll", named := ["webster/code.oops", "webster/code.quarters", "webster/code.heads"], apart := false, laid := [("webster/code.quarters", laid_webster_code_quarters), ("webster/code.oops", laid_webster_code_oops), ("webster/code.heads", laid_webster_code_heads)], narrowed := true }
def CodeAllUptoSaid : Prop := codeAllUptoRow.holds Tryd.pinned (OpenSpec.upto codeAllSpec)

/-- 'websterlaw12.CodeWrites', WHERE WHAT IT READS IS OF BULK AT MOST 1048576: true; the input reads as it did. -/
def codeWritesUptoRow : OpenClaim := { program := "ytmcikjihkgplaaadoor", sum := "3959a735b4ec6ab0a30ad0e78b99bad6ba6864070965a9ef904ff363be446347", func := "webster/websterlaw12.CodeWrites", spec := "codeWrites", named := ["webster/code.oops", "webster/code.quarters", "webster/code.heads"], apart := false, laid := [("webster/code.quarters", laid_webster_code_quarters), ("webster/code.oops", laid_webster_code_oops), ("webster/code.heads", laid_webster_code_heads)], narrowed := true }
def CodeWritesUptoSaid : Prop := codeWritesUptoRow.holds Tryd.pinned (OpenSpec.upto codeWritesSpec)

/-- 'websterlaw12.CodeBack', WHERE WHAT IT READS IS OF BULK AT MOST 1048576: true; the input reads as it did. -/
def codeBackUptoRow : OpenClaim := { program := "ytmcikjihkgplaaadoor", sum := "3959a735b4ec6ab0a30ad0e78b99bad6ba6864070965a9ef904ff363be446347", func := "webster/websterlaw12.CodeBack", spec := "codeBack", named := ["webster/code.oops", "webster/code.quarters", "webster/code.heads"], apart := false, laid := [("webster/code.quarters", laid_webster_code_quarters), ("webster/code.oops", laid_webster_code_oops), ("webster/code.heads", laid_webster_code_heads)], narrowed := true }
def CodeBackUptoSaid : Prop := codeBackUptoRow.holds Tryd.pinned (OpenSpec.upto codeBackSpec)

/-- 'websterlaw12.CodeJumps', WHERE WHAT IT READS IS OF BULK AT MOST 1048576: true; the input reads as it did. -/
def codeJumpsUptoRow : OpenClaim := { program := "ytmcikjihkgplaaadoor", sum := "3959a735b4ec6ab0a30ad0e78b99bad6ba6864070965a9ef904ff363be446347", func := "webster/websterlaw12.CodeJumps", spec := "codeJumps", named := ["webster/code.oops", "webster/code.quarters", "webster/code.heads"], apart := false, laid := [("webster/code.quarters", laid_webster_code_quarters), ("webster/code.oops", laid_webster_code_oops), ("webster/code.heads", laid_webster_code_heads)], narrowed := true }
def CodeJumpsUptoSaid : Prop := codeJumpsUptoRow.holds Tryd.pinned (OpenSpec.upto codeJumpsSpec)

/-- 'websterlaw12.CodeLong', WHERE WHAT IT READS IS OF BULK AT MOST 1048576: true; the input reads as it did. -/
def codeLongUptoRow : OpenClaim := { program := "ytmcikjihkgplaaadoor", sum := "3959a735b4ec6ab0a30ad0e78b99bad6ba6864070965a9ef904ff363be446347", func := "webster/websterlaw12.CodeLong", spec := "codeLong", named := ["webster/code.oops", "webster/code.quarters", "webster/code.heads"], apart := false, laid := [("webster/code.quarters", laid_webster_code_quarters), ("webster/code.oops", laid_webster_code_oops), ("webster/code.heads", laid_webster_code_heads)], narrowed := true }
def CodeLongUptoSaid : Prop := codeLongUptoRow.holds Tryd.pinned (OpenSpec.upto codeLongSpec)

/-- 'websterlaw12.CodeCut', WHERE WHAT IT READS IS OF BULK AT MOST 1048576: true; the input reads as it did. -/
def codeCutUptoRow : OpenClaim := { program := "ytmcikjihkgplaaadoor", sum := "3959a735b4ec6ab0a30ad0e78b99bad6ba6864070965a9ef904ff363be446347", func := "webster/websterlaw12.CodeCut", spec := "codeCut", named := ["webster/code.oops", "webster/code.quarters", "webster/code.heads"], apart := false, laid := [("webster/code.quarters", laid_webster_code_quarters), ("webster/code.oops", laid_webster_code_oops), ("webster/code.heads", laid_webster_code_heads)], narrowed := true }
def CodeCutUptoSaid : Prop := codeCutUptoRow.holds Tryd.pinned (OpenSpec.upto codeCutSpec)

/-- 'websterlaw12.CodeOne', WHERE WHAT IT READS IS OF BULK AT MOST 1048576: true; the input reads as it did. -/
def codeOneUptoRow : OpenClaim := { program := "ytmcikjihkgplaaadoor", sum := "3959a735b4ec6ab0a30ad0e78b99bad6ba6864070965a9ef904ff363be446347", func := "webster/websterlaw12.CodeOne", spec := "codeOne", named := ["webster/code.heads", "webster/code.oops", "webster/code.quarters"], apart := false, laid := [("webster/code.quarters", laid_webster_code_quarters), ("webster/code.oops", laid_webster_code_oops), ("webster/code.heads", laid_webster_code_heads)], narrowed := true }
def CodeOneUptoSaid : Prop := codeOneUptoRow.holds Tryd.pinned (OpenSpec.upto codeOneSpec)

end Rows
end Go.Proofs.YtmcikjihkgplaaaDoor
