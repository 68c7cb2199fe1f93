/- What the card ties: the library's tables, as the program's text lays them. -/
import Derived.Test.YtbfacdfmanffdaaGreatDoorJTx
import Derived.Lay
import Derived.MakeChecks
import Derived.LaidMore
import Derived.Stop.Joined
import Derived.SevenTiedAt
import Derived.Test.YtbfacdfmanffdaaGreatDoorCards
import Derived.Test.YtbfacdfmanffdaaGreatDoorTie
import Derived.Lib.LaidTab
import Derived.Test.YtbfacdfmanffdaaGreatDoorRows
namespace Go.Proofs.YtbfacdfmanffdaaGreatDoor
set_option maxRecDepth 1000000
open Go.ChangeShapes Go.WideShapes Go.ChangeAt Go.RowKit

def theLaid : List (String × DataW Unit) := Rows.largeBackRow.laid
noncomputable def theStart (os : Os) : World := World.laidAll Tryz.prog os theLaid
theorem start_met (os : Os) (args : Array Value) : laidMetH Tryz.prog theLaid ((theStart os).forCall (fun _ _ => 0) ⟨#[], args, []⟩).memory := by
  rw [MakeChecks.laidMetH_plain _ _ _ (by kernel_rfl)]; exact laidMet_laidAll _ (by kernel_rfl) (by kernel_rfl)
theorem tabs_of_laid {W : World} (h : laidMetH Tryz.prog theLaid W) : Tabs W := by
  rw [MakeChecks.laidMetH_plain _ _ _ (by kernel_rfl)] at h
  obtain ⟨ps, h, _⟩ := h
  obtain ⟨_, _, _, _, _, _, _, _, _, _, h, _⟩ := h
  obtain ⟨_, _, _, _, _, _, _, _, _, _, h, _⟩ := h
  obtain ⟨g', t', cs, fuel, p, q, hg', ht', hvar, hd, _, _⟩ := h
  have hg : Tryz.prog.globalNamed "internal/strconv.uint64pow10" = some 2 := by kernel_rfl
  have hty : (Tryz.prog.globals[2]?).map (·.type) = some 136 := by kernel_rfl
  have hce : Tryz.prog.cellsOf 103 = 1 := by kernel_rfl
  have hct : Tryz.prog.cellsOf 136 = 20 := by kernel_rfl
  have hdd : (Rows.laid_internal_strconv_uint64pow10 : DataW Unit) = Lib.tabData .u64 Lib.pow10Tab := by kernel_rfl
  obtain rfl := Option.some.inj (hg.symm.trans hg')
  obtain rfl := Option.some.inj (hty.symm.trans ht')
  rw [hdd] at hd
  unfold Tabs Lib.TabIs
  rw [hvar, ← Lib.cells_of_tab Tryz.underlying136 Tryz.underlying103 hce hct hd]
end Go.Proofs.YtbfacdfmanffdaaGreatDoor
