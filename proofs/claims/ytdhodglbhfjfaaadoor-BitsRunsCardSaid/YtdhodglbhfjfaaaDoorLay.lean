/- What the rows' condition on math/bits' table gives: the table's cells in memory; and that the program's own start meets it. -/
import Derived.Test.YtdhodglbhfjfaaaDoorKnown
import Derived.Test.YtdhodglbhfjfaaaDoorTie
import Derived.Test.YtdhodglbhfjfaaaDoorCards
import Derived.LaidMore
import Derived.Stop.Joined
import Derived.Lib.LaidTab
import Derived.SevenTiedAt
namespace Go.Proofs.YtdhodglbhfjfaaaDoor
open Go.ChangeShapes Go.WideShapes Go.ChangeAt Go.RowKit

theorem Tryd.own : ownKnob Tryd.prog.godebug = none := by kernel_rfl
/-- The table's name, as the rows have it. -/
def tabName : String := Rows.bitsNewRow.named.headD ""
theorem gTab : Tryd.prog.globalNamed tabName = some 0 := by kernel_rfl
theorem tTab : (Tryd.prog.globals[0]?).map (·.type) = some 55 := by kernel_rfl
theorem Tryd.cells5 : Tryd.prog.cellsOf 5 = 1 := by kernel_rfl
theorem Tryd.cells55 : Tryd.prog.cellsOf 55 = 64 := by kernel_rfl
def theLaid : List (String × DataW Unit) := Rows.bitsNewRow.laid

theorem door_met (os : Os) (args : Array Value) : laidMetH Tryd.prog theLaid ((World.doorLaid Tryd.prog 400 os).forCall (fun _ _ => 0) ⟨#[], args, []⟩).memory :=
  laidMetH_of_parts3 (fuel := 8) (laidMet_of_run' 8 (by kernel_rfl) (by kernel_rfl)) (by kernel_rfl) (by kernel_rfl)

theorem tab_of_laid {W : World} (h : laidMetH Tryd.prog theLaid W) : Tab W ∧ 0 < W.heap.size := by
  rw [MakeChecks.laidMetH_plain _ _ _ (by kernel_rfl)] at h
  have h1 : Lib.TabIs Tryd.prog W tabName .u8 (Lib.deBruijn64tab.map fun n : Nat => (n : Int)) :=
    Lib.tabIs_of_head (rest := []) (n := 64) gTab tTab Tryd.underlying55 Tryd.underlying5 Tryd.cells5 Tryd.cells55 h
  have h2 : Tab W := fun j hj => by
    have := h1.cell gTab j (by simpa [Lib.deBruijn64tab] using hj)
    rw [this]
    simp only [List.getD, List.getElem?_map]
    cases e : Lib.deBruijn64tab[j]? <;> simp
  exact ⟨h2, World.block_lt_of_cell? _ _ (h2 0 (by decide))⟩

theorem wf_u8 {n : Int} (h : (Lit.int .u8 n).wf = true) : 0 ≤ n ∧ n ≤ 255 := by
  have h1 : IntKind.u8.min = 0 := rfl
  have h2 : IntKind.u8.max = 255 := rfl
  simp only [Lit.wf, Bool.and_eq_true, decide_eq_true_eq] at h
  omega
theorem wf_i64 {n : Int} (h : (Lit.int .i64 n).wf = true) : -9223372036854775808 ≤ n ∧ n ≤ 9223372036854775807 := by
  have h1 : IntKind.i64.min = -9223372036854775808 := rfl
  have h2 : IntKind.i64.max = 9223372036854775807 := rfl
  simp only [Lit.wf, Bool.and_eq_true, decide_eq_true_eq] at h
  omega
end Go.Proofs.YtdhodglbhfjfaaaDoor
