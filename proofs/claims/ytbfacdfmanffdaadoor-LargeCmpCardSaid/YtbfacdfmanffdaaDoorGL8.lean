/- The walk of LargeCmp. -/
import Derived.Test.YtbfacdfmanffdaaDoorGLd
import Derived.Test.YtbfacdfmanffdaaDoorGLe
namespace Go.Proofs.YtbfacdfmanffdaaDoor
set_option maxRecDepth 1000000
open Go.ChangeShapes Go.WideShapes Go.ChangeAt Go.RowKit

set_option maxHeartbeats 8000000 in
theorem largeCmp_walk {N : Nat → Prop} (W : World) (hT : Tabs W) (v1 : Value) (As : List Int) (h1 : Bts N W v1 As) (b1 : Bytes As) (v2 : Value) (Bs : List Int) (h2 : Bts N W v2 Bs) (b2 : Bytes Bs) (v3 : Value) (Cs : List Int) (h3 : Bts N W v3 Cs) (b3 : Bytes Cs) :
    Calls Tryd.prog 8 #[v1, v2, v3] W fun e W' => e = .returned (.bool true) ∧ Below W.heap.size W W' := by
  have HV1 := Lib.hid h1
  have HB1 := Lib.hid b1
  obtain ⟨l1, e1⟩ : ∃ n, As.length = n := ⟨_, rfl⟩
  have L1 := Lib.hid e1
  obtain ⟨va1, ca1, rfl, _⟩ := Bts.form h1
  rw [e1] at HV1 ⊢
  clear h1 b1 e1
  have HV2 := Lib.hid h2
  have HB2 := Lib.hid b2
  obtain ⟨l2, e2⟩ : ∃ n, Bs.length = n := ⟨_, rfl⟩
  have L2 := Lib.hid e2
  obtain ⟨va2, ca2, rfl, _⟩ := Bts.form h2
  rw [e2] at HV2 ⊢
  clear h2 b2 e2
  have HV3 := Lib.hid h3
  have HB3 := Lib.hid b3
  obtain ⟨l3, e3⟩ : ∃ n, Cs.length = n := ⟨_, rfl⟩
  have L3 := Lib.hid e3
  obtain ⟨va3, ca3, rfl, _⟩ := Bts.form h3
  rw [e3] at HV3 ⊢
  clear h3 b3 e3
  have HK := Lib.hid (fun w' (h : Below W.heap.size W w') => known_any w' (hT.next h))
  clear hT
  have K0 := Lib.hid (Below.refl W.heap.size W)
  by_cases q1 : 100 < l1
  · have d1 : decide (100 < l1) = true := by simpa using q1
    have c1 : decide ((100 : Int) < l1) = true := by simpa using (by omega : (100 : Int) < l1)
    go_enter Tryd.func8, Tryd.ntmps8
    go_wp2_with (first | (go_at_call 11; with_reducible refine (HK.out _ K0.out).mono ?_; rintro e w1 ⟨rfl, hb⟩; replace K0 := Lib.hid (K0.out.trans (hb.mono K0.out.size)); clear hb))
    all_goals go_ret
    all_goals exact ⟨rfl, K0.out⟩
  have d1 : decide (100 < l1) = false := by simpa using q1
  have c1 : decide ((100 : Int) < l1) = false := by simpa using (by omega : ¬ (100 : Int) < l1)
  by_cases q2 : 100 < l2
  · have d2 : decide (100 < l2) = true := by simpa using q2
    have c2 : decide ((100 : Int) < l2) = true := by simpa using (by omega : (100 : Int) < l2)
    go_enter Tryd.func8, Tryd.ntmps8
    go_wp2_with (first | (go_at_call 11; with_reducible refine (HK.out _ K0.out).mono ?_; rintro e w1 ⟨rfl, hb⟩; replace K0 := Lib.hid (K0.out.trans (hb.mono K0.out.size)); clear hb))
    all_goals go_ret
    all_goals exact ⟨rfl, K0.out⟩
  have d2 : decide (100 < l2) = false := by simpa using q2
  have c2 : decide ((100 : Int) < l2) = false := by simpa using (by omega : ¬ (100 : Int) < l2)
  by_cases q3 : 100 < l3
  · have d3 : decide (100 < l3) = true := by simpa using q3
    have c3 : decide ((100 : Int) < l3) = true := by simpa using (by omega : (100 : Int) < l3)
    go_enter Tryd.func8, Tryd.ntmps8
    go_wp2_with (first | (go_at_call 11; with_reducible refine (HK.out _ K0.out).mono ?_; rintro e w1 ⟨rfl, hb⟩; replace K0 := Lib.hid (K0.out.trans (hb.mono K0.out.size)); clear hb))
    all_goals go_ret
    all_goals exact ⟨rfl, K0.out⟩
  have d3 : decide (100 < l3) = false := by simpa using q3
  have c3 : decide ((100 : Int) < l3) = false := by simpa using (by omega : ¬ (100 : Int) < l3)
  have PR1 := Lib.hid (fun w' (h : Below W.heap.size W w') => right_code _ As w' (HV1.out.next h) HB1.out (by rw [L1.out]; omega))
  unfold ValB at PR1
  obtain ⟨r1, hr1⟩ : ∃ r, rightB As = r := ⟨_, rfl⟩
  have R1 := Lib.hid hr1
  rw [hr1] at PR1
  clear hr1
  have PR2 := Lib.hid (fun w' (h : Below W.heap.size W w') => right_code _ Bs w' (HV2.out.next h) HB2.out (by rw [L2.out]; omega))
  unfold ValB at PR2
  obtain ⟨r2, hr2⟩ : ∃ r, rightB Bs = r := ⟨_, rfl⟩
  have R2 := Lib.hid hr2
  rw [hr2] at PR2
  clear hr2
  have PR3 := Lib.hid (fun w' (h : Below W.heap.size W w') => right_code _ Cs w' (HV3.out.next h) HB3.out (by rw [L3.out]; omega))
  unfold ValB at PR3
  obtain ⟨r3, hr3⟩ : ∃ r, rightB Cs = r := ⟨_, rfl⟩
  have R3 := Lib.hid hr3
  rw [hr3] at PR3
  clear hr3
  cases r1
  · clear PR2 PR3
    go_enter Tryd.func8, Tryd.ntmps8
    go_wp2_with (first | (go_at_call 23; with_reducible refine (PR1.out _ K0.out).mono ?_; rintro e w1 ⟨rfl, hb⟩; replace K0 := Lib.hid (K0.out.trans (hb.mono K0.out.size)); clear hb) | (go_at_call 11; with_reducible refine (HK.out _ K0.out).mono ?_; rintro e w2 ⟨rfl, hb⟩; replace K0 := Lib.hid (K0.out.trans (hb.mono K0.out.size)); clear hb))
    all_goals go_ret
    all_goals exact ⟨rfl, K0.out⟩
  cases r2
  · clear PR3
    go_enter Tryd.func8, Tryd.ntmps8
    go_wp2_with (first | (go_at_call 23; with_reducible refine (PR1.out _ K0.out).mono ?_; rintro e w1 ⟨rfl, hb⟩; replace K0 := Lib.hid (K0.out.trans (hb.mono K0.out.size)); clear hb) | (go_at_call 23; with_reducible refine (PR2.out _ K0.out).mono ?_; rintro e w2 ⟨rfl, hb⟩; replace K0 := Lib.hid (K0.out.trans (hb.mono K0.out.size)); clear hb) | (go_at_call 11; with_reducible refine (HK.out _ K0.out).mono ?_; rintro e w3 ⟨rfl, hb⟩; replace K0 := Lib.hid (K0.out.trans (hb.mono K0.out.size)); clear hb))
    all_goals go_ret
    all_goals exact ⟨rfl, K0.out⟩
  cases r3
  · skip
    go_enter Tryd.func8, Tryd.ntmps8
    go_wp2_with (first | (go_at_call 23; with_reducible refine (PR1.out _ K0.out).mono ?_; rintro e w1 ⟨rfl, hb⟩; replace K0 := Lib.hid (K0.out.trans (hb.mono K0.out.size)); clear hb) | (go_at_call 23; with_reducible refine (PR2.out _ K0.out).mono ?_; rintro e w2 ⟨rfl, hb⟩; replace K0 := Lib.hid (K0.out.trans (hb.mono K0.out.size)); clear hb) | (go_at_call 23; with_reducible refine (PR3.out _ K0.out).mono ?_; rintro e w3 ⟨rfl, hb⟩; replace K0 := Lib.hid (K0.out.trans (hb.mono K0.out.size)); clear hb) | (go_at_call 11; with_reducible refine (HK.out _ K0.out).mono ?_; rintro e w4 ⟨rfl, hb⟩; replace K0 := Lib.hid (K0.out.trans (hb.mono K0.out.size)); clear hb))
    all_goals go_ret
    all_goals exact ⟨rfl, K0.out⟩
  have hM : 256 * (256 : Int) ^ 100 ≤ 256 ^ 400 := two_pow (by decide)
  have hA := lt_pow HB1.out (k := 100) (by rw [L1.out]; omega)
  have hB := lt_pow HB2.out (k := 100) (by rw [L2.out]; omega)
  have hC := lt_pow HB3.out (k := 100) (by rw [L3.out]; omega)
  have hA0 := val_nonneg HB1.out
  have hB0 := val_nonneg HB2.out
  have hC0 := val_nonneg HB3.out
  have hs1 : val As + val Cs < 256 ^ 400 := Int.lt_of_lt_of_le (by generalize (256 : Int) ^ 100 = M at *; clear hM; omega : val As + val Cs < 256 * 256 ^ 100) hM
  have hs2 : val Bs + val Cs < 256 ^ 400 := Int.lt_of_lt_of_le (by generalize (256 : Int) ^ 100 = M at *; clear hM; omega : val Bs + val Cs < 256 * 256 ^ 100) hM
  clear hM hA hB hC hA0 hB0 hC0
  obtain ⟨x0, xf⟩ := add1_fits HB1.out HB3.out R1.out R3.out hs1
  obtain ⟨y0, yf⟩ := add1_fits HB2.out HB3.out R2.out R3.out hs2
  clear hs1 hs2
  have PC := Lib.hid (fun w' (h : Below W.heap.size W w') => cmp_code _ _ As Bs w' (HV1.out.next h) HB1.out (by rw [L1.out]; omega) (HV2.out.next h) HB2.out (by rw [L2.out]; omega))
  have PD := Lib.hid (fun w' (h : Below W.heap.size W w') => cmp_code _ _ Bs As w' (HV2.out.next h) HB2.out (by rw [L2.out]; omega) (HV1.out.next h) HB1.out (by rw [L1.out]; omega))
  have RC := Lib.hid (fun w' (h : Below W.heap.size W w') => cmp_refB _ _ As Bs w' (HV1.out.next h) HB1.out (by rw [L1.out]; omega) (HV2.out.next h) HB2.out (by rw [L2.out]; omega))
  have PX := Lib.hid (fun w' (h : Below W.heap.size W w') => add_one _ _ As Cs w' (HV1.out.next h) HB1.out (by rw [L1.out]; omega) (HV3.out.next h) HB3.out (by rw [L3.out]; omega))
  have PY := Lib.hid (fun w' (h : Below W.heap.size W w') => add_one _ _ Bs Cs w' (HV2.out.next h) HB2.out (by rw [L2.out]; omega) (HV3.out.next h) HB3.out (by rw [L3.out]; omega))
  have SM := Lib.hid (fun w' (h : Below W.heap.size W w') => same_any _ _ As Bs w' (HV1.out.next h) (HV2.out.next h) HB1.out HB2.out)
  unfold NumB at PX PY
  rw [x0] at PX
  rw [y0] at PY
  generalize addO As [Cs] = O1 at *
  generalize addO Bs [Cs] = O2 at *
  have PE := Lib.hid (fun w' v u (hv : Bts (fun _ => True) w' v O1) (hu : Bts (fun _ => True) w' u O2) => cmp_code v u O1 O2 w' hv xf.bytes xf.len hu yf.bytes yf.len)
  unfold ValB at PC PD RC PE
  have h3 : (cmpV (val As) (val Bs) = -1 ∧ cmpV (val Bs) (val As) = 1 ∧ decide (As = Bs) = false) ∨ (cmpV (val As) (val Bs) = 0 ∧ cmpV (val Bs) (val As) = 0 ∧ decide (As = Bs) = true) ∨ (cmpV (val As) (val Bs) = 1 ∧ cmpV (val Bs) (val As) = -1 ∧ decide (As = Bs) = false) := by
    rcases cmp_three (val As) (val Bs) with ⟨h1, h2, h3⟩ | ⟨h1, h2, h3⟩ | ⟨h1, h2, h3⟩
    · exact .inl ⟨h1, h2, by simpa using fun h => h3 (by rw [h])⟩
    · exact .inr (.inl ⟨h1, h2, by simpa using (fit_self HB1.out R1.out).eq (h3 ▸ fit_self HB2.out R2.out)⟩)
    · exact .inr (.inr ⟨h1, h2, by simpa using fun h => h3 (by rw [h])⟩)
  have h4 : cmpV (val O1) (val O2) = cmpV (val As) (val Bs) := by rw [xf.val, yf.val, cmpV_add]
  rw [h4] at PE
  generalize cmpV (val As) (val Bs) = c1 at *
  generalize cmpV (val Bs) (val As) = c2 at *
  generalize decide (As = Bs) = sb at *
  have XF := Lib.hid xf
  have YF := Lib.hid yf
  clear xf yf h4 x0 y0
  rcases h3 with ⟨rfl, rfl, rfl⟩ | ⟨rfl, rfl, rfl⟩ | ⟨rfl, rfl, rfl⟩
  · skip
    go_enter Tryd.func8, Tryd.ntmps8
    go_wp2_with (first | (go_at_call 23; with_reducible refine (PR1.out _ K0.out).mono ?_; rintro e w1 ⟨rfl, hb⟩; replace K0 := Lib.hid (K0.out.trans (hb.mono K0.out.size)); clear hb) | (go_at_call 23; with_reducible refine (PR2.out _ K0.out).mono ?_; rintro e w2 ⟨rfl, hb⟩; replace K0 := Lib.hid (K0.out.trans (hb.mono K0.out.size)); clear hb) | (go_at_call 23; with_reducible refine (PR3.out _ K0.out).mono ?_; rintro e w3 ⟨rfl, hb⟩; replace K0 := Lib.hid (K0.out.trans (hb.mono K0.out.size)); clear hb) | (go_at_call 21; with_reducible refine (PC.out _ K0.out).mono ?_; rintro e w4 ⟨rfl, hb⟩; replace K0 := Lib.hid (K0.out.trans (hb.mono K0.out.size)); clear hb) | (go_at_call 12; with_reducible refine (PX.out _ K0.out).mono ?_; rintro e w5 ⟨x5, rfl, hx, hb⟩; replace K0 := Lib.hid (K0.out.trans (hb.mono K0.out.size)); have X5 := Lib.hid hx; have K5 := Lib.hid (Below.refl w5.heap.size w5); clear hx hb) | (go_at_call 12; with_reducible refine (PY.out _ K0.out).mono ?_; rintro e w6 ⟨x6, rfl, hx, hb⟩; replace K0 := Lib.hid (K0.out.trans (hb.mono K0.out.size)); replace K5 := Lib.hid (K5.out.trans (hb.mono K5.out.size)); have X6 := Lib.hid hx; have K6 := Lib.hid (Below.refl w6.heap.size w6); clear hx hb) | (go_at_call 21; with_reducible refine (PD.out _ K0.out).mono ?_; rintro e w7 ⟨rfl, hb⟩; replace K0 := Lib.hid (K0.out.trans (hb.mono K0.out.size)); replace K5 := Lib.hid (K5.out.trans (hb.mono K5.out.size)); replace K6 := Lib.hid (K6.out.trans (hb.mono K6.out.size)); clear hb) | (go_at_call 18; with_reducible refine (SM.out _ K0.out).mono ?_; rintro e w8 ⟨rfl, rfl⟩) | (go_at_call 21; with_reducible refine (PE.out _ _ _ (X5.out.next K5.out) (X6.out.next K6.out)).mono ?_; rintro e w9 ⟨rfl, hb⟩; replace K0 := Lib.hid (K0.out.trans (hb.mono K0.out.size)); replace K5 := Lib.hid (K5.out.trans (hb.mono K5.out.size)); replace K6 := Lib.hid (K6.out.trans (hb.mono K6.out.size)); clear hb) | (go_at_call 22; with_reducible refine (RC.out _ K0.out).mono ?_; rintro e w10 ⟨rfl, hb⟩; replace K0 := Lib.hid (K0.out.trans (hb.mono K0.out.size)); replace K5 := Lib.hid (K5.out.trans (hb.mono K5.out.size)); replace K6 := Lib.hid (K6.out.trans (hb.mono K6.out.size)); clear hb) | (go_at_call 11; with_reducible refine (HK.out _ K0.out).mono ?_; rintro e w11 ⟨rfl, hb⟩; replace K0 := Lib.hid (K0.out.trans (hb.mono K0.out.size)); replace K5 := Lib.hid (K5.out.trans (hb.mono K5.out.size)); replace K6 := Lib.hid (K6.out.trans (hb.mono K6.out.size)); clear hb))
    all_goals go_ret
    all_goals exact ⟨rfl, K0.out⟩
  · skip
    go_enter Tryd.func8, Tryd.ntmps8
    go_wp2_with (first | (go_at_call 23; with_reducible refine (PR1.out _ K0.out).mono ?_; rintro e w1 ⟨rfl, hb⟩; replace K0 := Lib.hid (K0.out.trans (hb.mono K0.out.size)); clear hb) | (go_at_call 23; with_reducible refine (PR2.out _ K0.out).mono ?_; rintro e w2 ⟨rfl, hb⟩; replace K0 := Lib.hid (K0.out.trans (hb.mono K0.out.size)); clear hb) | (go_at_call 23; with_reducible refine (PR3.out _ K0.out).mono ?_; rintro e w3 ⟨rfl, hb⟩; replace K0 := Lib.hid (K0.out.trans (hb.mono K0.out.size)); clear hb) | (go_at_call 21; with_reducible refine (PC.out _ K0.out).mono ?_; rintro e w4 ⟨rfl, hb⟩; replace K0 := Lib.hid (K0.out.trans (hb.mono K0.out.size)); clear hb) | (go_at_call 12; with_reducible refine (PX.out _ K0.out).mono ?_; rintro e w5 ⟨x5, rfl, hx, hb⟩; replace K0 := Lib.hid (K0.out.trans (hb.mono K0.out.size)); have X5 := Lib.hid hx; have K5 := Lib.hid (Below.refl w5.heap.size w5); clear hx hb) | (go_at_call 12; with_reducible refine (PY.out _ K0.out).mono ?_; rintro e w6 ⟨x6, rfl, hx, hb⟩; replace K0 := Lib.hid (K0.out.trans (hb.mono K0.out.size)); replace K5 := Lib.hid (K5.out.trans (hb.mono K5.out.size)); have X6 := Lib.hid hx; have K6 := Lib.hid (Below.refl w6.heap.size w6); clear hx hb) | (go_at_call 21; with_reducible refine (PD.out _ K0.out).mono ?_; rintro e w7 ⟨rfl, hb⟩; replace K0 := Lib.hid (K0.out.trans (hb.mono K0.out.size)); replace K5 := Lib.hid (K5.out.trans (hb.mono K5.out.size)); replace K6 := Lib.hid (K6.out.trans (hb.mono K6.out.size)); clear hb) | (go_at_call 18; with_reducible refine (SM.out _ K0.out).mono ?_; rintro e w8 ⟨rfl, rfl⟩) | (go_at_call 21; with_reducible refine (PE.out _ _ _ (X5.out.next K5.out) (X6.out.next K6.out)).mono ?_; rintro e w9 ⟨rfl, hb⟩; replace K0 := Lib.hid (K0.out.trans (hb.mono K0.out.size)); replace K5 := Lib.hid (K5.out.trans (hb.mono K5.out.size)); replace K6 := Lib.hid (K6.out.trans (hb.mono K6.out.size)); clear hb) | (go_at_call 22; with_reducible refine (RC.out _ K0.out).mono ?_; rintro e w10 ⟨rfl, hb⟩; replace K0 := Lib.hid (K0.out.trans (hb.mono K0.out.size)); replace K5 := Lib.hid (K5.out.trans (hb.mono K5.out.size)); replace K6 := Lib.hid (K6.out.trans (hb.mono K6.out.size)); clear hb) | (go_at_call 11; with_reducible refine (HK.out _ K0.out).mono ?_; rintro e w11 ⟨rfl, hb⟩; replace K0 := Lib.hid (K0.out.trans (hb.mono K0.out.size)); replace K5 := Lib.hid (K5.out.trans (hb.mono K5.out.size)); replace K6 := Lib.hid (K6.out.trans (hb.mono K6.out.size)); clear hb))
    all_goals go_ret
    all_goals exact ⟨rfl, K0.out⟩
  · skip
    go_enter Tryd.func8, Tryd.ntmps8
    go_wp2_with (first | (go_at_call 23; with_reducible refine (PR1.out _ K0.out).mono ?_; rintro e w1 ⟨rfl, hb⟩; replace K0 := Lib.hid (K0.out.trans (hb.mono K0.out.size)); clear hb) | (go_at_call 23; with_reducible refine (PR2.out _ K0.out).mono ?_; rintro e w2 ⟨rfl, hb⟩; replace K0 := Lib.hid (K0.out.trans (hb.mono K0.out.size)); clear hb) | (go_at_call 23; with_reducible refine (PR3.out _ K0.out).mono ?_; rintro e w3 ⟨rfl, hb⟩; replace K0 := Lib.hid (K0.out.trans (hb.mono K0.out.size)); clear hb) | (go_at_call 21; with_reducible refine (PC.out _ K0.out).mono ?_; rintro e w4 ⟨rfl, hb⟩; replace K0 := Lib.hid (K0.out.trans (hb.mono K0.out.size)); clear hb) | (go_at_call 12; with_reducible refine (PX.out _ K0.out).mono ?_; rintro e w5 ⟨x5, rfl, hx, hb⟩; replace K0 := Lib.hid (K0.out.trans (hb.mono K0.out.size)); have X5 := Lib.hid hx; have K5 := Lib.hid (Below.refl w5.heap.size w5); clear hx hb) | (go_at_call 12; with_reducible refine (PY.out _ K0.out).mono ?_; rintro e w6 ⟨x6, rfl, hx, hb⟩; replace K0 := Lib.hid (K0.out.trans (hb.mono K0.out.size)); replace K5 := Lib.hid (K5.out.trans (hb.mono K5.out.size)); have X6 := Lib.hid hx; have K6 := Lib.hid (Below.refl w6.heap.size w6); clear hx hb) | (go_at_call 21; with_reducible refine (PD.out _ K0.out).mono ?_; rintro e w7 ⟨rfl, hb⟩; replace K0 := Lib.hid (K0.out.trans (hb.mono K0.out.size)); replace K5 := Lib.hid (K5.out.trans (hb.mono K5.out.size)); replace K6 := Lib.hid (K6.out.trans (hb.mono K6.out.size)); clear hb) | (go_at_call 18; with_reducible refine (SM.out _ K0.out).mono ?_; rintro e w8 ⟨rfl, rfl⟩) | (go_at_call 21; with_reducible refine (PE.out _ _ _ (X5.out.next K5.out) (X6.out.next K6.out)).mono ?_; rintro e w9 ⟨rfl, hb⟩; replace K0 := Lib.hid (K0.out.trans (hb.mono K0.out.size)); replace K5 := Lib.hid (K5.out.trans (hb.mono K5.out.size)); replace K6 := Lib.hid (K6.out.trans (hb.mono K6.out.size)); clear hb) | (go_at_call 22; with_reducible refine (RC.out _ K0.out).mono ?_; rintro e w10 ⟨rfl, hb⟩; replace K0 := Lib.hid (K0.out.trans (hb.mono K0.out.size)); replace K5 := Lib.hid (K5.out.trans (hb.mono K5.out.size)); replace K6 := Lib.hid (K6.out.trans (hb.mono K6.out.size)); clear hb) | (go_at_call 11; with_reducible refine (HK.out _ K0.out).mono ?_; rintro e w11 ⟨rfl, hb⟩; replace K0 := Lib.hid (K0.out.trans (hb.mono K0.out.size)); replace K5 := Lib.hid (K5.out.trans (hb.mono K5.out.size)); replace K6 := Lib.hid (K6.out.trans (hb.mono K6.out.size)); clear hb))
    all_goals go_ret
    all_goals exact ⟨rfl, K0.out⟩
end Go.Proofs.YtbfacdfmanffdaaDoor
