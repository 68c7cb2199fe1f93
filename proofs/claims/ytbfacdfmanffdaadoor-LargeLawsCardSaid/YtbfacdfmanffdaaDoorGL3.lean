/- The walk of LargeLaws. -/
import Derived.Test.YtbfacdfmanffdaaDoorGLd
import Derived.Test.YtbfacdfmanffdaaDoorGLf
namespace Go.Proofs.YtbfacdfmanffdaaDoor
set_option maxRecDepth 1000000
open Go.ChangeShapes Go.WideShapes Go.ChangeAt Go.RowKit

set_option maxHeartbeats 8000000 in
theorem largeLaws_walk {N : Nat → Prop} (W : World) (hT : Tabs W) (v1 : Value) (As : List Int) (h1 : Bts N W v1 As) (b1 : Bytes As) (v2 : Value) (Bs : List Int) (h2 : Bts N W v2 Bs) (b2 : Bytes Bs) (v3 : Value) (Cs : List Int) (h3 : Bts N W v3 Cs) (b3 : Bytes Cs) :
    Calls Tryd.prog 4 #[v1, v2, v3] W fun e W' => e = .returned (.bool true) ∧ Below W.heap.size W W' := by
  have HV1 := Lib.hid h1
  have HB1 := Lib.hid b1
  obtain ⟨l1, e1⟩ : ∃ n, As.length = n := ⟨_, rfl⟩
  have L1 := Lib.hid e1
  obtain ⟨va1, ca1, rfl, _⟩ := Bts.form h1
  rw [e1] at HV1 ⊢
  clear h1 b1 e1
  have HV2 := Lib.hid h2
  have HB2 := Lib.hid b2
  obtain ⟨l2, e2⟩ : ∃ n, Bs.length = n := ⟨_, rfl⟩
  have L2 := Lib.hid e2
  obtain ⟨va2, ca2, rfl, _⟩ := Bts.form h2
  rw [e2] at HV2 ⊢
  clear h2 b2 e2
  have HV3 := Lib.hid h3
  have HB3 := Lib.hid b3
  obtain ⟨l3, e3⟩ : ∃ n, Cs.length = n := ⟨_, rfl⟩
  have L3 := Lib.hid e3
  obtain ⟨va3, ca3, rfl, _⟩ := Bts.form h3
  rw [e3] at HV3 ⊢
  clear h3 b3 e3
  have HK := Lib.hid (fun w' (h : Below W.heap.size W w') => known_any w' (hT.next h))
  clear hT
  have K0 := Lib.hid (Below.refl W.heap.size W)
  by_cases q1 : 60 < l1
  · have d1 : decide (60 < l1) = true := by simpa using q1
    have c1 : decide ((60 : Int) < l1) = true := by simpa using (by omega : (60 : Int) < l1)
    go_enter Tryd.func4, Tryd.ntmps4
    go_wp2_with (first | (go_at_call 11; with_reducible refine (HK.out _ K0.out).mono ?_; rintro e w1 ⟨rfl, hb⟩; replace K0 := Lib.hid (K0.out.trans (hb.mono K0.out.size)); clear hb))
    all_goals go_ret
    all_goals exact ⟨rfl, K0.out⟩
  have d1 : decide (60 < l1) = false := by simpa using q1
  have c1 : decide ((60 : Int) < l1) = false := by simpa using (by omega : ¬ (60 : Int) < l1)
  by_cases q2 : 60 < l2
  · have d2 : decide (60 < l2) = true := by simpa using q2
    have c2 : decide ((60 : Int) < l2) = true := by simpa using (by omega : (60 : Int) < l2)
    go_enter Tryd.func4, Tryd.ntmps4
    go_wp2_with (first | (go_at_call 11; with_reducible refine (HK.out _ K0.out).mono ?_; rintro e w1 ⟨rfl, hb⟩; replace K0 := Lib.hid (K0.out.trans (hb.mono K0.out.size)); clear hb))
    all_goals go_ret
    all_goals exact ⟨rfl, K0.out⟩
  have d2 : decide (60 < l2) = false := by simpa using q2
  have c2 : decide ((60 : Int) < l2) = false := by simpa using (by omega : ¬ (60 : Int) < l2)
  by_cases q3 : 60 < l3
  · have d3 : decide (60 < l3) = true := by simpa using q3
    have c3 : decide ((60 : Int) < l3) = true := by simpa using (by omega : (60 : Int) < l3)
    go_enter Tryd.func4, Tryd.ntmps4
    go_wp2_with (first | (go_at_call 11; with_reducible refine (HK.out _ K0.out).mono ?_; rintro e w1 ⟨rfl, hb⟩; replace K0 := Lib.hid (K0.out.trans (hb.mono K0.out.size)); clear hb))
    all_goals go_ret
    all_goals exact ⟨rfl, K0.out⟩
  have d3 : decide (60 < l3) = false := by simpa using q3
  have c3 : decide ((60 : Int) < l3) = false := by simpa using (by omega : ¬ (60 : Int) < l3)
  have PR1 := Lib.hid (fun w' (h : Below W.heap.size W w') => right_code _ As w' (HV1.out.next h) HB1.out (by rw [L1.out]; omega))
  unfold ValB at PR1
  obtain ⟨r1, hr1⟩ : ∃ r, rightB As = r := ⟨_, rfl⟩
  have R1 := Lib.hid hr1
  rw [hr1] at PR1
  clear hr1
  have PR2 := Lib.hid (fun w' (h : Below W.heap.size W w') => right_code _ Bs w' (HV2.out.next h) HB2.out (by rw [L2.out]; omega))
  unfold ValB at PR2
  obtain ⟨r2, hr2⟩ : ∃ r, rightB Bs = r := ⟨_, rfl⟩
  have R2 := Lib.hid hr2
  rw [hr2] at PR2
  clear hr2
  have PR3 := Lib.hid (fun w' (h : Below W.heap.size W w') => right_code _ Cs w' (HV3.out.next h) HB3.out (by rw [L3.out]; omega))
  unfold ValB at PR3
  obtain ⟨r3, hr3⟩ : ∃ r, rightB Cs = r := ⟨_, rfl⟩
  have R3 := Lib.hid hr3
  rw [hr3] at PR3
  clear hr3
  cases r1
  · clear PR2 PR3
    go_enter Tryd.func4, Tryd.ntmps4
    go_wp2_with (first | (go_at_call 23; with_reducible refine (PR1.out _ K0.out).mono ?_; rintro e w1 ⟨rfl, hb⟩; replace K0 := Lib.hid (K0.out.trans (hb.mono K0.out.size)); clear hb) | (go_at_call 11; with_reducible refine (HK.out _ K0.out).mono ?_; rintro e w2 ⟨rfl, hb⟩; replace K0 := Lib.hid (K0.out.trans (hb.mono K0.out.size)); clear hb))
    all_goals go_ret
    all_goals exact ⟨rfl, K0.out⟩
  cases r2
  · clear PR3
    go_enter Tryd.func4, Tryd.ntmps4
    go_wp2_with (first | (go_at_call 23; with_reducible refine (PR1.out _ K0.out).mono ?_; rintro e w1 ⟨rfl, hb⟩; replace K0 := Lib.hid (K0.out.trans (hb.mono K0.out.size)); clear hb) | (go_at_call 23; with_reducible refine (PR2.out _ K0.out).mono ?_; rintro e w2 ⟨rfl, hb⟩; replace K0 := Lib.hid (K0.out.trans (hb.mono K0.out.size)); clear hb) | (go_at_call 11; with_reducible refine (HK.out _ K0.out).mono ?_; rintro e w3 ⟨rfl, hb⟩; replace K0 := Lib.hid (K0.out.trans (hb.mono K0.out.size)); clear hb))
    all_goals go_ret
    all_goals exact ⟨rfl, K0.out⟩
  cases r3
  · skip
    go_enter Tryd.func4, Tryd.ntmps4
    go_wp2_with (first | (go_at_call 23; with_reducible refine (PR1.out _ K0.out).mono ?_; rintro e w1 ⟨rfl, hb⟩; replace K0 := Lib.hid (K0.out.trans (hb.mono K0.out.size)); clear hb) | (go_at_call 23; with_reducible refine (PR2.out _ K0.out).mono ?_; rintro e w2 ⟨rfl, hb⟩; replace K0 := Lib.hid (K0.out.trans (hb.mono K0.out.size)); clear hb) | (go_at_call 23; with_reducible refine (PR3.out _ K0.out).mono ?_; rintro e w3 ⟨rfl, hb⟩; replace K0 := Lib.hid (K0.out.trans (hb.mono K0.out.size)); clear hb) | (go_at_call 11; with_reducible refine (HK.out _ K0.out).mono ?_; rintro e w4 ⟨rfl, hb⟩; replace K0 := Lib.hid (K0.out.trans (hb.mono K0.out.size)); clear hb))
    all_goals go_ret
    all_goals exact ⟨rfl, K0.out⟩
  obtain ⟨O, S, P, Q, R, x0, x1, y0, y1, s0, s1, sk, p1, q1', r1', qk, rk, t1, d0, d1'⟩ := laws_sum HB1.out HB2.out HB3.out R1.out R2.out R3.out (by rw [L1.out]; omega) (by rw [L2.out]; omega) (by rw [L3.out]; omega)
  have CX := Lib.hid (fun w' (h : Below W.heap.size W w') => add_two _ _ _ As Bs Cs w' (HV1.out.next h) HB1.out (by rw [L1.out]; omega) (HV2.out.next h) HB2.out (by rw [L2.out]; omega) (HV3.out.next h) HB3.out (by rw [L3.out]; omega))
  have CY := Lib.hid (fun w' (h : Below W.heap.size W w') => add_two _ _ _ Cs As Bs w' (HV3.out.next h) HB3.out (by rw [L3.out]; omega) (HV1.out.next h) HB1.out (by rw [L1.out]; omega) (HV2.out.next h) HB2.out (by rw [L2.out]; omega))
  have CS := Lib.hid (fun w' (h : Below W.heap.size W w') => add_one _ _ As Bs w' (HV1.out.next h) HB1.out (by rw [L1.out]; omega) (HV2.out.next h) HB2.out (by rw [L2.out]; omega))
  have CP := Lib.hid (fun w' (h : Below W.heap.size W w') v (hv : Bts (fun _ => True) w' v S) => mul_code v _ S Cs w' hv sk.1 sk.2 (HV3.out.next h) HB3.out (by rw [L3.out]; omega))
  have CQ := Lib.hid (fun w' (h : Below W.heap.size W w') => mul_code _ _ Cs As w' (HV3.out.next h) HB3.out (by rw [L3.out]; omega) (HV1.out.next h) HB1.out (by rw [L1.out]; omega))
  have CR := Lib.hid (fun w' (h : Below W.heap.size W w') => mul_code _ _ Bs Cs w' (HV2.out.next h) HB2.out (by rw [L2.out]; omega) (HV3.out.next h) HB3.out (by rw [L3.out]; omega))
  have CT := Lib.hid (fun w' v u (hv : Bts (fun _ => True) w' v Q) (hu : Bts (fun _ => True) w' u R) => add_one v u Q R w' hv qk.1 qk.2 hu rk.1 rk.2)
  have CD := Lib.hid (fun w' (h : Below W.heap.size W w') v (hv : Bts (fun _ => True) w' v S) => sub_code v _ S Bs w' hv sk.1 sk.2 (HV2.out.next h) HB2.out (by rw [L2.out]; omega))
  unfold NumB at CX CY CS CP CQ CR CT CD
  rw [x0, x1] at CX
  rw [y0, y1] at CY
  rw [s0, s1] at CS
  rw [p1] at CP
  rw [q1'] at CQ
  rw [r1'] at CR
  rw [t1] at CT
  rw [d0, d1'] at CD
  clear x0 x1 y0 y1 s0 s1 p1 q1' r1' t1 d0 d1' sk qk rk
  generalize mulE S Cs = e1 at *
  generalize mulE Cs As = e2 at *
  generalize mulE Bs Cs = e3 at *
  generalize addE Q [R] = e4 at *
  by_cases hz : l2 = 0
  · have hB : Bs = [] := List.eq_nil_of_length_eq_zero (by rw [L2.out]; exact hz)
    have z1 : divE As Bs = 4 := by unfold divE; rw [if_neg (fun h => h ⟨R1.out, R2.out⟩), if_pos hB]
    have CV := Lib.hid (fun w' (h : Below W.heap.size W w') => div_code _ _ As Bs w' (HV1.out.next h) HB1.out (by rw [L1.out]; omega) (HV2.out.next h) HB2.out (by rw [L2.out]; omega))
    unfold DivB at CV
    rw [z1] at CV
    clear hB z1
    subst hz
    go_enter Tryd.func4, Tryd.ntmps4
    go_wp2_with (first | (go_at_call 23; with_reducible refine (PR1.out _ K0.out).mono ?_; rintro e w1 ⟨rfl, hb⟩; replace K0 := Lib.hid (K0.out.trans (hb.mono K0.out.size)); clear hb) | (go_at_call 23; with_reducible refine (PR2.out _ K0.out).mono ?_; rintro e w2 ⟨rfl, hb⟩; replace K0 := Lib.hid (K0.out.trans (hb.mono K0.out.size)); clear hb) | (go_at_call 23; with_reducible refine (PR3.out _ K0.out).mono ?_; rintro e w3 ⟨rfl, hb⟩; replace K0 := Lib.hid (K0.out.trans (hb.mono K0.out.size)); clear hb) | (go_at_call 12; with_reducible refine (CX.out _ K0.out).mono ?_; rintro e w4 ⟨x4, rfl, hx, hb⟩; replace K0 := Lib.hid (K0.out.trans (hb.mono K0.out.size)); have X4 := Lib.hid hx; have K4 := Lib.hid (Below.refl w4.heap.size w4); clear hx hb) | (go_at_call 12; with_reducible refine (CY.out _ K0.out).mono ?_; rintro e w5 ⟨x5, rfl, hx, hb⟩; replace K0 := Lib.hid (K0.out.trans (hb.mono K0.out.size)); replace K4 := Lib.hid (K4.out.trans (hb.mono K4.out.size)); have X5 := Lib.hid hx; have K5 := Lib.hid (Below.refl w5.heap.size w5); clear hx hb) | (go_at_call 12; with_reducible refine (CS.out _ K0.out).mono ?_; rintro e w6 ⟨x6, rfl, hx, hb⟩; replace K0 := Lib.hid (K0.out.trans (hb.mono K0.out.size)); replace K4 := Lib.hid (K4.out.trans (hb.mono K4.out.size)); replace K5 := Lib.hid (K5.out.trans (hb.mono K5.out.size)); have X6 := Lib.hid hx; have K6 := Lib.hid (Below.refl w6.heap.size w6); clear hx hb) | (go_at_call 18; with_reducible refine (same_eq _ _ O _ (X4.out.next K4.out) (X5.out.next K5.out)).mono ?_; rintro e w7 ⟨rfl, rfl⟩) | (go_at_call 16; with_reducible refine (CP.out _ K0.out _ (X6.out.next K6.out)).mono ?_; rintro e w8 ⟨x8, rfl, hx, hb⟩; replace K0 := Lib.hid (K0.out.trans (hb.mono K0.out.size)); replace K4 := Lib.hid (K4.out.trans (hb.mono K4.out.size)); replace K5 := Lib.hid (K5.out.trans (hb.mono K5.out.size)); replace K6 := Lib.hid (K6.out.trans (hb.mono K6.out.size)); have X8 := Lib.hid hx; have K8 := Lib.hid (Below.refl w8.heap.size w8); clear hx hb) | (go_at_call 16; with_reducible refine (CQ.out _ K0.out).mono ?_; rintro e w9 ⟨x9, rfl, hx, hb⟩; replace K0 := Lib.hid (K0.out.trans (hb.mono K0.out.size)); replace K4 := Lib.hid (K4.out.trans (hb.mono K4.out.size)); replace K5 := Lib.hid (K5.out.trans (hb.mono K5.out.size)); replace K6 := Lib.hid (K6.out.trans (hb.mono K6.out.size)); replace K8 := Lib.hid (K8.out.trans (hb.mono K8.out.size)); have X9 := Lib.hid hx; have K9 := Lib.hid (Below.refl w9.heap.size w9); clear hx hb) | (go_at_call 16; with_reducible refine (CR.out _ K0.out).mono ?_; rintro e w10 ⟨x10, rfl, hx, hb⟩; replace K0 := Lib.hid (K0.out.trans (hb.mono K0.out.size)); replace K4 := Lib.hid (K4.out.trans (hb.mono K4.out.size)); replace K5 := Lib.hid (K5.out.trans (hb.mono K5.out.size)); replace K6 := Lib.hid (K6.out.trans (hb.mono K6.out.size)); replace K8 := Lib.hid (K8.out.trans (hb.mono K8.out.size)); replace K9 := Lib.hid (K9.out.trans (hb.mono K9.out.size)); obtain ⟨xa10, xc10, rfl, _⟩ := Bts.form hx; have X10 := Lib.hid hx; have K10 := Lib.hid (Below.refl w10.heap.size w10); clear hx hb) | (go_at_call 12; with_reducible refine (CT.out _ _ _ (X9.out.next K9.out) (X10.out.next K10.out)).mono ?_; rintro e w11 ⟨x11, rfl, hx, hb⟩; replace K0 := Lib.hid (K0.out.trans (hb.mono K0.out.size)); replace K4 := Lib.hid (K4.out.trans (hb.mono K4.out.size)); replace K5 := Lib.hid (K5.out.trans (hb.mono K5.out.size)); replace K6 := Lib.hid (K6.out.trans (hb.mono K6.out.size)); replace K8 := Lib.hid (K8.out.trans (hb.mono K8.out.size)); replace K9 := Lib.hid (K9.out.trans (hb.mono K9.out.size)); replace K10 := Lib.hid (K10.out.trans (hb.mono K10.out.size)); have X11 := Lib.hid hx; have K11 := Lib.hid (Below.refl w11.heap.size w11); clear hx hb) | (go_at_call 14; with_reducible refine (CD.out _ K0.out _ (X6.out.next K6.out)).mono ?_; rintro e w12 ⟨x12, rfl, hx, hb⟩; replace K0 := Lib.hid (K0.out.trans (hb.mono K0.out.size)); replace K4 := Lib.hid (K4.out.trans (hb.mono K4.out.size)); replace K5 := Lib.hid (K5.out.trans (hb.mono K5.out.size)); replace K6 := Lib.hid (K6.out.trans (hb.mono K6.out.size)); replace K8 := Lib.hid (K8.out.trans (hb.mono K8.out.size)); replace K9 := Lib.hid (K9.out.trans (hb.mono K9.out.size)); replace K10 := Lib.hid (K10.out.trans (hb.mono K10.out.size)); replace K11 := Lib.hid (K11.out.trans (hb.mono K11.out.size)); have X12 := Lib.hid hx; have K12 := Lib.hid (Below.refl w12.heap.size w12); clear hx hb) | (go_at_call 18; with_reducible refine (same_eq _ _ P _ (X8.out.next K8.out) (X11.out.next K11.out)).mono ?_; rintro e w13 ⟨rfl, rfl⟩) | (go_at_call 18; with_reducible refine (same_eq _ _ As _ (X12.out.next K12.out) (HV1.out.next K0.out)).mono ?_; rintro e w14 ⟨rfl, rfl⟩) | (go_at_call 19; with_reducible refine (CV.out _ K0.out).mono ?_; rintro e w15 ⟨x15, y15, rfl, hx, hy, hb⟩; replace K0 := Lib.hid (K0.out.trans (hb.mono K0.out.size)); replace K4 := Lib.hid (K4.out.trans (hb.mono K4.out.size)); replace K5 := Lib.hid (K5.out.trans (hb.mono K5.out.size)); replace K6 := Lib.hid (K6.out.trans (hb.mono K6.out.size)); replace K8 := Lib.hid (K8.out.trans (hb.mono K8.out.size)); replace K9 := Lib.hid (K9.out.trans (hb.mono K9.out.size)); replace K10 := Lib.hid (K10.out.trans (hb.mono K10.out.size)); replace K11 := Lib.hid (K11.out.trans (hb.mono K11.out.size)); replace K12 := Lib.hid (K12.out.trans (hb.mono K12.out.size)); have X15 := Lib.hid hx; have Y15 := Lib.hid hy; have K15 := Lib.hid (Below.refl w15.heap.size w15); clear hx hy hb) | (go_at_call 11; with_reducible refine (HK.out _ K0.out).mono ?_; rintro e w16 ⟨rfl, hb⟩; replace K0 := Lib.hid (K0.out.trans (hb.mono K0.out.size)); replace K4 := Lib.hid (K4.out.trans (hb.mono K4.out.size)); replace K5 := Lib.hid (K5.out.trans (hb.mono K5.out.size)); replace K6 := Lib.hid (K6.out.trans (hb.mono K6.out.size)); replace K8 := Lib.hid (K8.out.trans (hb.mono K8.out.size)); replace K9 := Lib.hid (K9.out.trans (hb.mono K9.out.size)); replace K10 := Lib.hid (K10.out.trans (hb.mono K10.out.size)); replace K11 := Lib.hid (K11.out.trans (hb.mono K11.out.size)); replace K12 := Lib.hid (K12.out.trans (hb.mono K12.out.size)); replace K15 := Lib.hid (K15.out.trans (hb.mono K15.out.size)); clear hb))
    all_goals go_ret
    all_goals exact ⟨rfl, K0.out⟩
  have hB : Bs ≠ [] := fun h => hz (by rw [← L2.out, h]; rfl)
  obtain ⟨U, V, K, u0, u1, v1', uk, vk, k1, kk, z1, c1'⟩ := laws_div HB1.out HB2.out R1.out R2.out hB
  have f1 : ((l2 : Int) == 0) = false := by simp; omega
  have f2 : (l2 == 0) = false := by simpa using hz
  have CV := Lib.hid (fun w' (h : Below W.heap.size W w') => div_code _ _ As Bs w' (HV1.out.next h) HB1.out (by rw [L1.out]; omega) (HV2.out.next h) HB2.out (by rw [L2.out]; omega))
  have CW := Lib.hid (fun w' (h : Below W.heap.size W w') v (hv : Bts (fun _ => True) w' v U) => mul_code v _ U Bs w' hv uk.1 uk.2 (HV2.out.next h) HB2.out (by rw [L2.out]; omega))
  have CZ := Lib.hid (fun w' v u (hv : Bts (fun _ => True) w' v K) (hu : Bts (fun _ => True) w' u V) => add_one v u K V w' hv kk.1 kk.2 hu vk.1 vk.2)
  have CC := Lib.hid (fun w' (h : Below W.heap.size W w') v (hv : Bts (fun _ => True) w' v V) => cmp_code v _ V Bs w' hv vk.1 vk.2 (HV2.out.next h) HB2.out (by rw [L2.out]; omega))
  unfold DivB at CV
  unfold NumB at CW CZ
  unfold ValB at CC
  rw [u0, u1, v1'] at CV
  rw [k1] at CW
  rw [z1] at CZ
  rw [c1'] at CC
  clear u0 u1 v1' uk vk k1 kk z1 c1' hB
  generalize mulE U Bs = e5 at *
  generalize addE K [V] = e6 at *
  go_enter Tryd.func4, Tryd.ntmps4
  go_wp2_with (first | (go_at_call 23; with_reducible refine (PR1.out _ K0.out).mono ?_; rintro e w1 ⟨rfl, hb⟩; replace K0 := Lib.hid (K0.out.trans (hb.mono K0.out.size)); clear hb) | (go_at_call 23; with_reducible refine (PR2.out _ K0.out).mono ?_; rintro e w2 ⟨rfl, hb⟩; replace K0 := Lib.hid (K0.out.trans (hb.mono K0.out.size)); clear hb) | (go_at_call 23; with_reducible refine (PR3.out _ K0.out).mono ?_; rintro e w3 ⟨rfl, hb⟩; replace K0 := Lib.hid (K0.out.trans (hb.mono K0.out.size)); clear hb) | (go_at_call 12; with_reducible refine (CX.out _ K0.out).mono ?_; rintro e w4 ⟨x4, rfl, hx, hb⟩; replace K0 := Lib.hid (K0.out.trans (hb.mono K0.out.size)); have X4 := Lib.hid hx; have K4 := Lib.hid (Below.refl w4.heap.size w4); clear hx hb) | (go_at_call 12; with_reducible refine (CY.out _ K0.out).mono ?_; rintro e w5 ⟨x5, rfl, hx, hb⟩; replace K0 := Lib.hid (K0.out.trans (hb.mono K0.out.size)); replace K4 := Lib.hid (K4.out.trans (hb.mono K4.out.size)); have X5 := Lib.hid hx; have K5 := Lib.hid (Below.refl w5.heap.size w5); clear hx hb) | (go_at_call 12; with_reducible refine (CS.out _ K0.out).mono ?_; rintro e w6 ⟨x6, rfl, hx, hb⟩; replace K0 := Lib.hid (K0.out.trans (hb.mono K0.out.size)); replace K4 := Lib.hid (K4.out.trans (hb.mono K4.out.size)); replace K5 := Lib.hid (K5.out.trans (hb.mono K5.out.size)); have X6 := Lib.hid hx; have K6 := Lib.hid (Below.refl w6.heap.size w6); clear hx hb) | (go_at_call 18; with_reducible refine (same_eq _ _ O _ (X4.out.next K4.out) (X5.out.next K5.out)).mono ?_; rintro e w7 ⟨rfl, rfl⟩) | (go_at_call 16; with_reducible refine (CP.out _ K0.out _ (X6.out.next K6.out)).mono ?_; rintro e w8 ⟨x8, rfl, hx, hb⟩; replace K0 := Lib.hid (K0.out.trans (hb.mono K0.out.size)); replace K4 := Lib.hid (K4.out.trans (hb.mono K4.out.size)); replace K5 := Lib.hid (K5.out.trans (hb.mono K5.out.size)); replace K6 := Lib.hid (K6.out.trans (hb.mono K6.out.size)); have X8 := Lib.hid hx; have K8 := Lib.hid (Below.refl w8.heap.size w8); clear hx hb) | (go_at_call 16; with_reducible refine (CQ.out _ K0.out).mono ?_; rintro e w9 ⟨x9, rfl, hx, hb⟩; replace K0 := Lib.hid (K0.out.trans (hb.mono K0.out.size)); replace K4 := Lib.hid (K4.out.trans (hb.mono K4.out.size)); replace K5 := Lib.hid (K5.out.trans (hb.mono K5.out.size)); replace K6 := Lib.hid (K6.out.trans (hb.mono K6.out.size)); replace K8 := Lib.hid (K8.out.trans (hb.mono K8.out.size)); have X9 := Lib.hid hx; have K9 := Lib.hid (Below.refl w9.heap.size w9); clear hx hb) | (go_at_call 16; with_reducible refine (CR.out _ K0.out).mono ?_; rintro e w10 ⟨x10, rfl, hx, hb⟩; replace K0 := Lib.hid (K0.out.trans (hb.mono K0.out.size)); replace K4 := Lib.hid (K4.out.trans (hb.mono K4.out.size)); replace K5 := Lib.hid (K5.out.trans (hb.mono K5.out.size)); replace K6 := Lib.hid (K6.out.trans (hb.mono K6.out.size)); replace K8 := Lib.hid (K8.out.trans (hb.mono K8.out.size)); replace K9 := Lib.hid (K9.out.trans (hb.mono K9.out.size)); obtain ⟨xa10, xc10, rfl, _⟩ := Bts.form hx; have X10 := Lib.hid hx; have K10 := Lib.hid (Below.refl w10.heap.size w10); clear hx hb) | (go_at_call 12; with_reducible refine (CT.out _ _ _ (X9.out.next K9.out) (X10.out.next K10.out)).mono ?_; rintro e w11 ⟨x11, rfl, hx, hb⟩; replace K0 := Lib.hid (K0.out.trans (hb.mono K0.out.size)); replace K4 := Lib.hid (K4.out.trans (hb.mono K4.out.size)); replace K5 := Lib.hid (K5.out.trans (hb.mono K5.out.size)); replace K6 := Lib.hid (K6.out.trans (hb.mono K6.out.size)); replace K8 := Lib.hid (K8.out.trans (hb.mono K8.out.size)); replace K9 := Lib.hid (K9.out.trans (hb.mono K9.out.size)); replace K10 := Lib.hid (K10.out.trans (hb.mono K10.out.size)); have X11 := Lib.hid hx; have K11 := Lib.hid (Below.refl w11.heap.size w11); clear hx hb) | (go_at_call 14; with_reducible refine (CD.out _ K0.out _ (X6.out.next K6.out)).mono ?_; rintro e w12 ⟨x12, rfl, hx, hb⟩; replace K0 := Lib.hid (K0.out.trans (hb.mono K0.out.size)); replace K4 := Lib.hid (K4.out.trans (hb.mono K4.out.size)); replace K5 := Lib.hid (K5.out.trans (hb.mono K5.out.size)); replace K6 := Lib.hid (K6.out.trans (hb.mono K6.out.size)); replace K8 := Lib.hid (K8.out.trans (hb.mono K8.out.size)); replace K9 := Lib.hid (K9.out.trans (hb.mono K9.out.size)); replace K10 := Lib.hid (K10.out.trans (hb.mono K10.out.size)); replace K11 := Lib.hid (K11.out.trans (hb.mono K11.out.size)); have X12 := Lib.hid hx; have K12 := Lib.hid (Below.refl w12.heap.size w12); clear hx hb) | (go_at_call 18; with_reducible refine (same_eq _ _ P _ (X8.out.next K8.out) (X11.out.next K11.out)).mono ?_; rintro e w13 ⟨rfl, rfl⟩) | (go_at_call 18; with_reducible refine (same_eq _ _ As _ (X12.out.next K12.out) (HV1.out.next K0.out)).mono ?_; rintro e w14 ⟨rfl, rfl⟩) | (go_at_call 19; with_reducible refine (CV.out _ K0.out).mono ?_; rintro e w15 ⟨x15, y15, rfl, hx, hy, hb⟩; replace K0 := Lib.hid (K0.out.trans (hb.mono K0.out.size)); replace K4 := Lib.hid (K4.out.trans (hb.mono K4.out.size)); replace K5 := Lib.hid (K5.out.trans (hb.mono K5.out.size)); replace K6 := Lib.hid (K6.out.trans (hb.mono K6.out.size)); replace K8 := Lib.hid (K8.out.trans (hb.mono K8.out.size)); replace K9 := Lib.hid (K9.out.trans (hb.mono K9.out.size)); replace K10 := Lib.hid (K10.out.trans (hb.mono K10.out.size)); replace K11 := Lib.hid (K11.out.trans (hb.mono K11.out.size)); replace K12 := Lib.hid (K12.out.trans (hb.mono K12.out.size)); obtain ⟨ya15, yc15, rfl, _⟩ := Bts.form hy; have X15 := Lib.hid hx; have Y15 := Lib.hid hy; have K15 := Lib.hid (Below.refl w15.heap.size w15); clear hx hy hb) | (go_at_call 16; with_reducible refine (CW.out _ K0.out _ (X15.out.next K15.out)).mono ?_; rintro e w16 ⟨x16, rfl, hx, hb⟩; replace K0 := Lib.hid (K0.out.trans (hb.mono K0.out.size)); replace K4 := Lib.hid (K4.out.trans (hb.mono K4.out.size)); replace K5 := Lib.hid (K5.out.trans (hb.mono K5.out.size)); replace K6 := Lib.hid (K6.out.trans (hb.mono K6.out.size)); replace K8 := Lib.hid (K8.out.trans (hb.mono K8.out.size)); replace K9 := Lib.hid (K9.out.trans (hb.mono K9.out.size)); replace K10 := Lib.hid (K10.out.trans (hb.mono K10.out.size)); replace K11 := Lib.hid (K11.out.trans (hb.mono K11.out.size)); replace K12 := Lib.hid (K12.out.trans (hb.mono K12.out.size)); replace K15 := Lib.hid (K15.out.trans (hb.mono K15.out.size)); have X16 := Lib.hid hx; have K16 := Lib.hid (Below.refl w16.heap.size w16); clear hx hb) | (go_at_call 12; with_reducible refine (CZ.out _ _ _ (X16.out.next K16.out) (Y15.out.next K15.out)).mono ?_; rintro e w17 ⟨x17, rfl, hx, hb⟩; replace K0 := Lib.hid (K0.out.trans (hb.mono K0.out.size)); replace K4 := Lib.hid (K4.out.trans (hb.mono K4.out.size)); replace K5 := Lib.hid (K5.out.trans (hb.mono K5.out.size)); replace K6 := Lib.hid (K6.out.trans (hb.mono K6.out.size)); replace K8 := Lib.hid (K8.out.trans (hb.mono K8.out.size)); replace K9 := Lib.hid (K9.out.trans (hb.mono K9.out.size)); replace K10 := Lib.hid (K10.out.trans (hb.mono K10.out.size)); replace K11 := Lib.hid (K11.out.trans (hb.mono K11.out.size)); replace K12 := Lib.hid (K12.out.trans (hb.mono K12.out.size)); replace K15 := Lib.hid (K15.out.trans (hb.mono K15.out.size)); replace K16 := Lib.hid (K16.out.trans (hb.mono K16.out.size)); have X17 := Lib.hid hx; have K17 := Lib.hid (Below.refl w17.heap.size w17); clear hx hb) | (go_at_call 18; with_reducible refine (same_eq _ _ As _ (X17.out.next K17.out) (HV1.out.next K0.out)).mono ?_; rintro e w18 ⟨rfl, rfl⟩) | (go_at_call 21; with_reducible refine (CC.out _ K0.out _ (Y15.out.next K15.out)).mono ?_; rintro e w19 ⟨rfl, hb⟩; replace K0 := Lib.hid (K0.out.trans (hb.mono K0.out.size)); replace K4 := Lib.hid (K4.out.trans (hb.mono K4.out.size)); replace K5 := Lib.hid (K5.out.trans (hb.mono K5.out.size)); replace K6 := Lib.hid (K6.out.trans (hb.mono K6.out.size)); replace K8 := Lib.hid (K8.out.trans (hb.mono K8.out.size)); replace K9 := Lib.hid (K9.out.trans (hb.mono K9.out.size)); replace K10 := Lib.hid (K10.out.trans (hb.mono K10.out.size)); replace K11 := Lib.hid (K11.out.trans (hb.mono K11.out.size)); replace K12 := Lib.hid (K12.out.trans (hb.mono K12.out.size)); replace K15 := Lib.hid (K15.out.trans (hb.mono K15.out.size)); replace K16 := Lib.hid (K16.out.trans (hb.mono K16.out.size)); replace K17 := Lib.hid (K17.out.trans (hb.mono K17.out.size)); clear hb) | (go_at_call 11; with_reducible refine (HK.out _ K0.out).mono ?_; rintro e w20 ⟨rfl, hb⟩; replace K0 := Lib.hid (K0.out.trans (hb.mono K0.out.size)); replace K4 := Lib.hid (K4.out.trans (hb.mono K4.out.size)); replace K5 := Lib.hid (K5.out.trans (hb.mono K5.out.size)); replace K6 := Lib.hid (K6.out.trans (hb.mono K6.out.size)); replace K8 := Lib.hid (K8.out.trans (hb.mono K8.out.size)); replace K9 := Lib.hid (K9.out.trans (hb.mono K9.out.size)); replace K10 := Lib.hid (K10.out.trans (hb.mono K10.out.size)); replace K11 := Lib.hid (K11.out.trans (hb.mono K11.out.size)); replace K12 := Lib.hid (K12.out.trans (hb.mono K12.out.size)); replace K15 := Lib.hid (K15.out.trans (hb.mono K15.out.size)); replace K16 := Lib.hid (K16.out.trans (hb.mono K16.out.size)); replace K17 := Lib.hid (K17.out.trans (hb.mono K17.out.size)); clear hb))
  all_goals go_ret
  all_goals exact ⟨rfl, K0.out⟩
end Go.Proofs.YtbfacdfmanffdaaDoor
