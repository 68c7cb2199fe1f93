/- What the rows' condition on math/bits' table gives: the table's cells in memory; that the program's own start meets it; and what the chapter's function Sectors tells. -/
import Derived.Test.YtkjpemgoiobeeaaDoorEKn
import Derived.Test.YtkjpemgoiobeeaaDoorTie
import Derived.Test.YtkjpemgoiobeeaaDoorCards
import Derived.LaidMore
import Derived.Stop.Joined
import Derived.Lib.LaidTab
import Derived.SevenTiedAt
namespace Go.Proofs.YtkjpemgoiobeeaaDoor
set_option maxRecDepth 1000000
open Go.ChangeShapes Go.WideShapes Go.ChangeAt Go.RowKit

/-- The table's name, as the rows have it. -/
def tabName : String := Rows.extentSectorsRow.named.headD ""
theorem gTab : Tryd.prog.globalNamed tabName = some 0 := by kernel_rfl
theorem tTab : (Tryd.prog.globals[0]?).map (·.type) = some 100 := by kernel_rfl
theorem Tryd.cells100 : Tryd.prog.cellsOf 100 = 64 := by kernel_rfl
def theLaid : List (String × DataW Unit) := Rows.extentSectorsRow.laid

theorem door_met (os : Os) (args : Array Value) : laidMetH Tryd.prog theLaid ((World.doorLaid Tryd.prog 400 os).forCall (fun _ _ => 0) ⟨#[], args, []⟩).memory :=
  laidMetH_of_parts3 (fuel := 8) (laidMet_of_run' 8 (by kernel_rfl) (by kernel_rfl)) (by kernel_rfl) (by kernel_rfl)

theorem tab_of_laid {W : World} (h : laidMetH Tryd.prog theLaid W) : Tab W ∧ 0 < W.heap.size := by
  rw [MakeChecks.laidMetH_plain _ _ _ (by kernel_rfl)] at h
  have h1 : Lib.TabIs Tryd.prog W tabName .u8 (Lib.deBruijn64tab.map fun n : Nat => (n : Int)) :=
    Lib.tabIs_of_head (rest := []) (n := 64) gTab tTab Tryd.underlying100 Tryd.underlying5 Tryd.cells5 Tryd.cells100 h
  have h2 : Tab W := fun j hj => by
    have := h1.cell gTab j (by simpa [Lib.deBruijn64tab] using hj)
    rw [this]
    simp only [List.getD, List.getElem?_map]
    cases e : Lib.deBruijn64tab[j]? <;> simp
  exact ⟨h2, World.block_lt_of_cell? _ _ (h2 0 (by decide))⟩

theorem wf_u16 {n : Int} (h : (Lit.int .u16 n).wf = true) : 0 ≤ n ∧ n ≤ 65535 := by
  have h1 : IntKind.u16.min = 0 := rfl
  have h2 : IntKind.u16.max = 65535 := rfl
  simp only [Lit.wf, Bool.and_eq_true, decide_eq_true_eq] at h
  omega

/-- The chapter's function. -/
theorem refsec_any (k : Nat) (w : World) (h : k ≤ 1000000000000000000) :
    Calls Tryd.prog 24 #[.int .i64 k] w fun e w' => e = .returned (.int .i64 (secs k)) ∧ w = w' := by
  go_enter Tryd.func24, Tryd.ntmps24
  go_wp2
  go_loop [3] (fun i => ∃ j : Nat, 1 ≤ j ∧ j ≤ secs k ∧ i = .int .i64 j) (fun i => secs k - (intOf i).toNat)
  case atStart => exact ⟨1, by omega, secs_pos k, rfl⟩
  case round =>
    obtain ⟨j, h1, h2, rfl⟩ := hrel
    have hs : secs k ≤ 15625000000000001 := by unfold secs; omega
    by_cases hlt : j * 64 < k
    · have hlt' : (j : Int) * 64 < k := by omega
      have h3 : j < secs k := by unfold secs; omega
      go_wp2
      go_round
      case rel => exact ⟨j + 1, by omega, by omega, by go_num⟩
      case measure => simp [intOf]; omega
    · have hlt' : ¬ (j : Int) * 64 < k := by omega
      have h3 : j = secs k := by unfold secs at h2 ⊢; omega
      go_wp2
      go_ret
      exact ⟨rfl, rfl⟩
end Go.Proofs.YtkjpemgoiobeeaaDoor
