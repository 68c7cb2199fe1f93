/- The walk of LargeDiv. -/
import Derived.Test.YtbfacdfmanffdaaDoorGLa
namespace Go.Proofs.YtbfacdfmanffdaaDoor
set_option maxRecDepth 1000000
open Go.ChangeShapes Go.WideShapes Go.ChangeAt Go.RowKit

set_option maxHeartbeats 8000000 in
theorem largeDiv_walk {N M : Nat → Prop} (W : World) (hT : Tabs W) (v1 v2 : Value) (As Bs : List Int) (h1 : Bts N W v1 As) (b1 : Bytes As) (h2 : Bts M W v2 Bs) (b2 : Bytes Bs) :
    Calls Tryd.prog 7 #[v1, v2] W fun e W' => e = .returned (.bool true) ∧ Below W.heap.size W W' := by
  have HV1 := Lib.hid h1
  have HB1 := Lib.hid b1
  have HV2 := Lib.hid h2
  have HB2 := Lib.hid b2
  have HK := Lib.hid (fun w' (h : Below W.heap.size W w') => known_any w' (hT.next h))
  clear hT
  have K0 := Lib.hid (Below.refl W.heap.size W)
  obtain ⟨l1, e1⟩ : ∃ n, As.length = n := ⟨_, rfl⟩
  obtain ⟨l2, e2⟩ : ∃ n, Bs.length = n := ⟨_, rfl⟩
  have L1 := Lib.hid e1
  have L2 := Lib.hid e2
  obtain ⟨va, ca, rfl, _⟩ := Bts.form h1
  obtain ⟨vb, cb, rfl, _⟩ := Bts.form h2
  rw [e1] at HV1 ⊢
  rw [e2] at HV2 ⊢
  clear h1 b1 h2 b2 e1 e2
  by_cases q1 : 60 < l1
  · have d1 : decide (60 < l1) = true := by simpa using q1
    have d2 : decide ((60 : Int) < l1) = true := by simpa using (by omega : (60 : Int) < l1)
    go_enter Tryd.func7, Tryd.ntmps7
    go_wp2_with (first | (go_at_call 11; with_reducible refine (HK.out _ K0.out).mono ?_; rintro e w1 ⟨rfl, hb⟩; replace K0 := Lib.hid (K0.out.trans (hb.mono K0.out.size)); clear hb))
    all_goals go_ret
    all_goals exact ⟨rfl, K0.out⟩
  have d1 : decide (60 < l1) = false := by simpa using q1
  have d2 : decide ((60 : Int) < l1) = false := by simpa using (by omega : ¬ (60 : Int) < l1)
  by_cases q2 : 60 < l2
  · have d3 : decide (60 < l2) = true := by simpa using q2
    have d4 : decide ((60 : Int) < l2) = true := by simpa using (by omega : (60 : Int) < l2)
    go_enter Tryd.func7, Tryd.ntmps7
    go_wp2_with (first | (go_at_call 11; with_reducible refine (HK.out _ K0.out).mono ?_; rintro e w1 ⟨rfl, hb⟩; replace K0 := Lib.hid (K0.out.trans (hb.mono K0.out.size)); clear hb))
    all_goals go_ret
    all_goals exact ⟨rfl, K0.out⟩
  have d3 : decide (60 < l2) = false := by simpa using q2
  have d4 : decide ((60 : Int) < l2) = false := by simpa using (by omega : ¬ (60 : Int) < l2)
  have P := Lib.hid (fun w' (h : Below W.heap.size W w') => div_code _ _ As Bs w' (HV1.out.next h) HB1.out (by rw [L1.out]; omega) (HV2.out.next h) HB2.out (by rw [L2.out]; omega))
  have R := Lib.hid (fun w' (h : Below W.heap.size W w') => Calls.mono (div_ref _ _ As Bs w' (HV1.out.next h) HB1.out (by rw [L1.out]; omega) (HV2.out.next h) HB2.out (by rw [L2.out]; omega)) (fun _ _ h => DivPost.b h))
  unfold DivB at P R
  generalize divE As Bs = er at *
  generalize divQ As Bs = Q at *
  generalize divR As Bs = Rm at *
  have e0 : (er == er) = true := by simp
  go_enter Tryd.func7, Tryd.ntmps7
  go_wp2_with (first | (go_at_call 19; with_reducible refine (P.out _ K0.out).mono ?_; rintro e w1 ⟨x1, y1, rfl, hx, hy, hb⟩; replace K0 := Lib.hid (K0.out.trans (hb.mono K0.out.size)); have X1 := Lib.hid hx; have Y1 := Lib.hid hy; have K1 := Lib.hid (Below.refl w1.heap.size w1); clear hx hy hb) | (go_at_call 20; with_reducible refine (R.out _ K0.out).mono ?_; rintro e w2 ⟨x2, y2, rfl, hx, hy, hb⟩; replace K0 := Lib.hid (K0.out.trans (hb.mono K0.out.size)); replace K1 := Lib.hid (K1.out.trans (hb.mono K1.out.size)); have X2 := Lib.hid hx; have Y2 := Lib.hid hy; have K2 := Lib.hid (Below.refl w2.heap.size w2); clear hx hy hb) | (go_at_call 18; with_reducible refine (same_eq _ _ Q _ (X1.out.next K1.out) (X2.out.next K2.out)).mono ?_; rintro e w3 ⟨rfl, rfl⟩) | (go_at_call 18; with_reducible refine (same_eq _ _ Rm _ (Y1.out.next K1.out) (Y2.out.next K2.out)).mono ?_; rintro e w4 ⟨rfl, rfl⟩) | (go_at_call 11; with_reducible refine (HK.out _ K0.out).mono ?_; rintro e w5 ⟨rfl, hb⟩; replace K0 := Lib.hid (K0.out.trans (hb.mono K0.out.size)); replace K1 := Lib.hid (K1.out.trans (hb.mono K1.out.size)); replace K2 := Lib.hid (K2.out.trans (hb.mono K2.out.size)); clear hb))
  all_goals go_ret
  all_goals exact ⟨rfl, K0.out⟩
end Go.Proofs.YtbfacdfmanffdaaDoor
