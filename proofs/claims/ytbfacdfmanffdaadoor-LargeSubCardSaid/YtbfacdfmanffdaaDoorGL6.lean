/- The walk of LargeSub. -/
import Derived.Test.YtbfacdfmanffdaaDoorGLb
namespace Go.Proofs.YtbfacdfmanffdaaDoor
set_option maxRecDepth 1000000
open Go.ChangeShapes Go.WideShapes Go.ChangeAt Go.RowKit

set_option maxHeartbeats 8000000 in
theorem largeSub_walk {N : Nat → Prop} (W : World) (hT : Tabs W) (v1 : Value) (As : List Int) (h1 : Bts N W v1 As) (b1 : Bytes As) (v2 : Value) (Bs : List Int) (h2 : Bts N W v2 Bs) (b2 : Bytes Bs) :
    Calls Tryd.prog 6 #[v1, v2] W fun e W' => e = .returned (.bool true) ∧ Below W.heap.size W W' := by
  have HV1 := Lib.hid h1
  have HB1 := Lib.hid b1
  obtain ⟨l1, e1⟩ : ∃ n, As.length = n := ⟨_, rfl⟩
  have L1 := Lib.hid e1
  obtain ⟨va1, ca1, rfl, _⟩ := Bts.form h1
  rw [e1] at HV1 ⊢
  clear h1 b1 e1
  have HV2 := Lib.hid h2
  have HB2 := Lib.hid b2
  obtain ⟨l2, e2⟩ : ∃ n, Bs.length = n := ⟨_, rfl⟩
  have L2 := Lib.hid e2
  obtain ⟨va2, ca2, rfl, _⟩ := Bts.form h2
  rw [e2] at HV2 ⊢
  clear h2 b2 e2
  have HK := Lib.hid (fun w' (h : Below W.heap.size W w') => known_any w' (hT.next h))
  clear hT
  have K0 := Lib.hid (Below.refl W.heap.size W)
  by_cases q1 : 420 < l1
  · have d1 : decide (420 < l1) = true := by simpa using q1
    have c1 : decide ((420 : Int) < l1) = true := by simpa using (by omega : (420 : Int) < l1)
    go_enter Tryd.func6, Tryd.ntmps6
    go_wp2_with (first | (go_at_call 11; with_reducible refine (HK.out _ K0.out).mono ?_; rintro e w1 ⟨rfl, hb⟩; replace K0 := Lib.hid (K0.out.trans (hb.mono K0.out.size)); clear hb))
    all_goals go_ret
    all_goals exact ⟨rfl, K0.out⟩
  have d1 : decide (420 < l1) = false := by simpa using q1
  have c1 : decide ((420 : Int) < l1) = false := by simpa using (by omega : ¬ (420 : Int) < l1)
  by_cases q2 : 420 < l2
  · have d2 : decide (420 < l2) = true := by simpa using q2
    have c2 : decide ((420 : Int) < l2) = true := by simpa using (by omega : (420 : Int) < l2)
    go_enter Tryd.func6, Tryd.ntmps6
    go_wp2_with (first | (go_at_call 11; with_reducible refine (HK.out _ K0.out).mono ?_; rintro e w1 ⟨rfl, hb⟩; replace K0 := Lib.hid (K0.out.trans (hb.mono K0.out.size)); clear hb))
    all_goals go_ret
    all_goals exact ⟨rfl, K0.out⟩
  have d2 : decide (420 < l2) = false := by simpa using q2
  have c2 : decide ((420 : Int) < l2) = false := by simpa using (by omega : ¬ (420 : Int) < l2)
  have P := Lib.hid (fun w' (h : Below W.heap.size W w') => sub_code _ _ As Bs w' (HV1.out.next h) HB1.out (by rw [L1.out]; omega) (HV2.out.next h) HB2.out (by rw [L2.out]; omega))
  have R := Lib.hid (fun w' (h : Below W.heap.size W w') => Calls.mono (sub_ref _ _ As Bs w' (HV1.out.next h) HB1.out (by rw [L1.out]; omega) (HV2.out.next h) HB2.out (by rw [L2.out]; omega)) (fun _ _ h => NumPost.b h))
  have HO := Lib.hid ((sub_facts HB1.out HB2.out : subE As Bs = 0 → cmpV (val (subO As Bs)) (val As) ≤ 0 ∧ rightB (subO As Bs) = true))
  have HO2 := Lib.hid ((sub_out HB1.out HB2.out : Bytes (subO As Bs) ∧ (subO As Bs).length ≤ 1000000000000))
  unfold NumB at P R
  generalize subE As Bs = er at *
  generalize subO As Bs = O at *
  have HC := Lib.hid (fun w' (h : Below W.heap.size W w') v (hv : Bts (fun _ => True) w' v O) => cmp_code v _ O As w' hv HO2.out.1 HO2.out.2 (HV1.out.next h) HB1.out (by rw [L1.out]; omega))
  have HR := Lib.hid (fun w' v (hv : Bts (fun _ => True) w' v O) => right_code v O w' hv HO2.out.1 HO2.out.2)
  unfold ValB at HC HR
  have e0 : (er == er) = true := by simp
  by_cases hz : er = 0
  · subst hz
    obtain ⟨o1, o2⟩ := HO.out rfl
    rw [o2] at HR
    generalize cmpV (val O) (val As) = cv at *
    have o1' : decide (cv ≤ 0) = true := by simpa using o1
    clear HO
    go_enter Tryd.func6, Tryd.ntmps6
    go_wp2_with (first | (go_at_call 14; with_reducible refine (P.out _ K0.out).mono ?_; rintro e w1 ⟨x1, rfl, hx, hb⟩; replace K0 := Lib.hid (K0.out.trans (hb.mono K0.out.size)); have X1 := Lib.hid hx; have K1 := Lib.hid (Below.refl w1.heap.size w1); clear hx hb) | (go_at_call 15; with_reducible refine (R.out _ K0.out).mono ?_; rintro e w2 ⟨x2, rfl, hx, hb⟩; replace K0 := Lib.hid (K0.out.trans (hb.mono K0.out.size)); replace K1 := Lib.hid (K1.out.trans (hb.mono K1.out.size)); have X2 := Lib.hid hx; have K2 := Lib.hid (Below.refl w2.heap.size w2); clear hx hb) | (go_at_call 18; with_reducible refine (same_eq _ _ O _ (X1.out.next K1.out) (X2.out.next K2.out)).mono ?_; rintro e w3 ⟨rfl, rfl⟩) | (go_at_call 21; with_reducible refine (HC.out _ K0.out _ (X1.out.next K1.out)).mono ?_; rintro e w4 ⟨rfl, hb⟩; replace K0 := Lib.hid (K0.out.trans (hb.mono K0.out.size)); replace K1 := Lib.hid (K1.out.trans (hb.mono K1.out.size)); replace K2 := Lib.hid (K2.out.trans (hb.mono K2.out.size)); clear hb) | (go_at_call 23; with_reducible refine (HR.out _ _ (X1.out.next K1.out)).mono ?_; rintro e w5 ⟨rfl, hb⟩; replace K0 := Lib.hid (K0.out.trans (hb.mono K0.out.size)); replace K1 := Lib.hid (K1.out.trans (hb.mono K1.out.size)); replace K2 := Lib.hid (K2.out.trans (hb.mono K2.out.size)); clear hb) | (go_at_call 11; with_reducible refine (HK.out _ K0.out).mono ?_; rintro e w6 ⟨rfl, hb⟩; replace K0 := Lib.hid (K0.out.trans (hb.mono K0.out.size)); replace K1 := Lib.hid (K1.out.trans (hb.mono K1.out.size)); replace K2 := Lib.hid (K2.out.trans (hb.mono K2.out.size)); clear hb))
    all_goals go_ret
    all_goals exact ⟨rfl, K0.out⟩
  · have hz1 : (er == 0) = false := by simpa using hz
    clear HO HC HR
    go_enter Tryd.func6, Tryd.ntmps6
    go_wp2_with (first | (go_at_call 14; with_reducible refine (P.out _ K0.out).mono ?_; rintro e w1 ⟨x1, rfl, hx, hb⟩; replace K0 := Lib.hid (K0.out.trans (hb.mono K0.out.size)); have X1 := Lib.hid hx; have K1 := Lib.hid (Below.refl w1.heap.size w1); clear hx hb) | (go_at_call 15; with_reducible refine (R.out _ K0.out).mono ?_; rintro e w2 ⟨x2, rfl, hx, hb⟩; replace K0 := Lib.hid (K0.out.trans (hb.mono K0.out.size)); replace K1 := Lib.hid (K1.out.trans (hb.mono K1.out.size)); have X2 := Lib.hid hx; have K2 := Lib.hid (Below.refl w2.heap.size w2); clear hx hb) | (go_at_call 18; with_reducible refine (same_eq _ _ O _ (X1.out.next K1.out) (X2.out.next K2.out)).mono ?_; rintro e w3 ⟨rfl, rfl⟩) | (go_at_call 11; with_reducible refine (HK.out _ K0.out).mono ?_; rintro e w4 ⟨rfl, hb⟩; replace K0 := Lib.hid (K0.out.trans (hb.mono K0.out.size)); replace K1 := Lib.hid (K1.out.trans (hb.mono K1.out.size)); replace K2 := Lib.hid (K2.out.trans (hb.mono K2.out.size)); clear hb))
    all_goals go_ret
    all_goals exact ⟨rfl, K0.out⟩
end Go.Proofs.YtbfacdfmanffdaaDoor
