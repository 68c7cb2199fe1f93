/- The walk of LargeReckons. -/
import Derived.Test.YtbfacdfmanffdaaDoorGLb
namespace Go.Proofs.YtbfacdfmanffdaaDoor
set_option maxRecDepth 1000000
open Go.ChangeShapes Go.WideShapes Go.ChangeAt Go.RowKit

theorem long_any (va vb : Option Addr) (l1 l2 ca cb : Nat) : ∃ b : Bool, (b = false → l1 ≤ 420 ∧ l2 ≤ 420) ∧ ∀ w, Calls Tryd.prog 10 #[.slice va l1 ca, .slice vb l2 cb] w (ValB (.bool b) w) := by
  by_cases q1 : 420 < l1
  · have d1 : decide (420 < l1) = true := by simpa using q1
    have c1 : decide ((420 : Int) < l1) = true := by simpa using (by omega : (420 : Int) < l1)
    refine ⟨true, by simp, fun w => ?_⟩
    unfold ValB
    go_enter Tryd.func10, Tryd.ntmps10
    go_wp2
    go_ret
    exact ⟨rfl, Below.refl _ _⟩
  have d1 : decide (420 < l1) = false := by simpa using q1
  have c1 : decide ((420 : Int) < l1) = false := by simpa using (by omega : ¬ (420 : Int) < l1)
  by_cases q2 : 420 < l2
  · have d2 : decide (420 < l2) = true := by simpa using q2
    have c2 : decide ((420 : Int) < l2) = true := by simpa using (by omega : (420 : Int) < l2)
    refine ⟨true, by simp, fun w => ?_⟩
    unfold ValB
    go_enter Tryd.func10, Tryd.ntmps10
    go_wp2
    go_ret
    exact ⟨rfl, Below.refl _ _⟩
  have d2 : decide (420 < l2) = false := by simpa using q2
  have c2 : decide ((420 : Int) < l2) = false := by simpa using (by omega : ¬ (420 : Int) < l2)
  have hm : (l1 : Int) * l2 ≤ 420 * 420 := Int.le_trans (Int.mul_le_mul_of_nonneg_left (by omega) (by omega)) (Int.mul_le_mul_of_nonneg_right (by omega) (by omega))
  have hm0 : 0 ≤ (l1 : Int) * l2 := Int.mul_nonneg (by omega) (by omega)
  generalize hp : (l1 : Int) * l2 = p at *
  have hq : l1 ≤ 420 ∧ l2 ≤ 420 := by omega
  clear q1 q2
  refine ⟨decide (40000 < p), fun _ => hq, fun w => ?_⟩
  unfold ValB
  go_enter Tryd.func10, Tryd.ntmps10
  go_wp2
  all_goals go_ret
  all_goals exact ⟨rfl, Below.refl _ _⟩
end Go.Proofs.YtbfacdfmanffdaaDoor
