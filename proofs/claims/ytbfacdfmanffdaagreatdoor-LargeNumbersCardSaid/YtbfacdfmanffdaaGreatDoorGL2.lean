/- The walks of LargeNumbers and LargeRead. -/
import Derived.Test.YtbfacdfmanffdaaGreatDoorGLd
import Derived.Test.YtbfacdfmanffdaaGreatDoorJRe
namespace Go.Proofs.YtbfacdfmanffdaaGreatDoor
set_option maxRecDepth 1000000
open Go.ChangeShapes Go.WideShapes Go.ChangeAt Go.RowKit

set_option maxHeartbeats 8000000 in
theorem largeNumbers_walk {N : Nat → Prop} (W : World) (hT : Tabs W) (v1 : Value) (As : List Int) (h1 : Bts N W v1 As) (b1 : Bytes As) (n : Int) (hn : (Lit.int .i64 n).wf = true) (cs : List Int) (hcs : Bytes cs) :
    Calls Tryz.prog 3 #[.int .i64 n, v1, .string (strOfNums cs)] W fun e W' => e = .returned (.bool true) ∧ Below W.heap.size W W' := by
  have hn' : -9223372036854775808 ≤ n ∧ n ≤ 9223372036854775807 := wf_i64 hn
  clear hn
  have HV1 := Lib.hid h1
  have HB1 := Lib.hid b1
  obtain ⟨l1, e1⟩ : ∃ n, As.length = n := ⟨_, rfl⟩
  have L1 := Lib.hid e1
  obtain ⟨va1, ca1, rfl, _⟩ := Bts.form h1
  rw [e1] at HV1 ⊢
  clear h1 b1 e1
  have HT := Lib.hid hT
  have HK := Lib.hid (fun w' (h : Below W.heap.size W w') => known_any w' (hT.next h))
  clear hT
  have K0 := Lib.hid (Below.refl W.heap.size W)
  have HCS := Lib.hid hcs
  obtain ⟨lc, ec⟩ : ∃ k, cs.length = k := ⟨_, rfl⟩
  have LC := Lib.hid ec
  have hsz : (strOfNums cs).size = lc := (strOfNums_size cs).trans ec
  clear hcs ec
  by_cases q1 : 60 < l1
  · have d1 : decide (60 < l1) = true := by simpa using q1
    have c1 : decide ((60 : Int) < l1) = true := by simpa using (by omega : (60 : Int) < l1)
    go_enter Tryz.func3, Tryz.ntmps3
    go_wp2_with (first | (go_at_call 6; with_reducible refine (HK.out _ K0.out).mono ?_; rintro e w1 ⟨rfl, hb⟩; replace K0 := Lib.hid (K0.out.trans (hb.mono K0.out.size)); clear hb))
    all_goals go_ret
    all_goals exact ⟨rfl, K0.out⟩
  have d1 : decide (60 < l1) = false := by simpa using q1
  have c1 : decide ((60 : Int) < l1) = false := by simpa using (by omega : ¬ (60 : Int) < l1)
  by_cases q2 : 200 < lc
  · have d2 : decide (200 < lc) = true := by simpa using q2
    have c2 : decide ((200 : Int) < lc) = true := by simpa using (by omega : (200 : Int) < lc)
    go_enter Tryz.func3, Tryz.ntmps3
    go_wp2_with (first | (go_at_call 6; with_reducible refine (HK.out _ K0.out).mono ?_; rintro e w1 ⟨rfl, hb⟩; replace K0 := Lib.hid (K0.out.trans (hb.mono K0.out.size)); clear hb))
    all_goals go_ret
    all_goals exact ⟨rfl, K0.out⟩
  have d2 : decide (200 < lc) = false := by simpa using q2
  have c2 : decide ((200 : Int) < lc) = false := by simpa using (by omega : ¬ (200 : Int) < lc)
  have POf := Lib.hid (fun w' (_ : Below W.heap.size W w') => of_code n w' hn'.1 hn'.2)
  have ROf := Lib.hid (fun w' (_ : Below W.heap.size W w') => of_all n w' hn'.1 hn'.2)
  have PI := Lib.hid (fun w' (h : Below W.heap.size W w') => int_code _ As w' (HV1.out.next h) HB1.out (by rw [L1.out]; omega))
  have RI := Lib.hid (fun w' (h : Below W.heap.size W w') => int_refB _ As w' (HV1.out.next h) HB1.out (by rw [L1.out]; omega))
  have PRd := Lib.hid (fun w' (_ : Below W.heap.size W w') => read_code cs w' HCS.out (by rw [LC.out]; omega))
  have RRd := Lib.hid (fun w' (_ : Below W.heap.size W w') => Calls.mono (read_ref cs w' HCS.out (by rw [LC.out]; omega)) (fun _ _ h => NumPost.b h))
  have PT := Lib.hid (fun w' (h : Below W.heap.size W w') => text_code _ As w' (HT.out.next h) (HV1.out.next h) HB1.out (by rw [L1.out]; omega))
  have RT := Lib.hid (fun w' (h : Below W.heap.size W w') => text_ref _ As w' (HV1.out.next h) HB1.out (by rw [L1.out]; omega))
  unfold NumB at POf ROf PRd RRd
  unfold ValB at PI RI PT
  generalize ofE n = e1 at *
  generalize ofO n = O1 at *
  generalize intV As = iv at *
  generalize intB As = ib at *
  generalize readE cs = e2 at *
  generalize readO cs = O2 at *
  generalize strOfNums (textO As) = tx at *
  generalize strOfNums cs = cz at *
  have n1 : (e1 == e1) = true := by simp
  have n2 : (e2 == e2) = true := by simp
  have n3 : (iv == iv) = true := by simp
  have n4 : (ib == ib) = true := by simp
  have n5 : (tx.toList == tx.toList) = true := by simp
  clear hn'
  go_enter Tryz.func3, Tryz.ntmps3
  go_wp2_with (first | (go_at_call 7; with_reducible refine (POf.out _ K0.out).mono ?_; rintro e w1 ⟨x1, rfl, hx, hb⟩; replace K0 := Lib.hid (K0.out.trans (hb.mono K0.out.size)); have X1 := Lib.hid hx; have K1 := Lib.hid (Below.refl w1.heap.size w1); clear hx hb) | (go_at_call 8; with_reducible refine (ROf.out _ K0.out).mono ?_; rintro e w2 ⟨x2, rfl, hx, hb⟩; replace K0 := Lib.hid (K0.out.trans (hb.mono K0.out.size)); replace K1 := Lib.hid (K1.out.trans (hb.mono K1.out.size)); have X2 := Lib.hid hx; have K2 := Lib.hid (Below.refl w2.heap.size w2); clear hx hb) | (go_at_call 9; with_reducible refine (PI.out _ K0.out).mono ?_; rintro e w3 ⟨rfl, hb⟩; replace K0 := Lib.hid (K0.out.trans (hb.mono K0.out.size)); replace K1 := Lib.hid (K1.out.trans (hb.mono K1.out.size)); replace K2 := Lib.hid (K2.out.trans (hb.mono K2.out.size)); clear hb) | (go_at_call 10; with_reducible refine (RI.out _ K0.out).mono ?_; rintro e w4 ⟨rfl, hb⟩; replace K0 := Lib.hid (K0.out.trans (hb.mono K0.out.size)); replace K1 := Lib.hid (K1.out.trans (hb.mono K1.out.size)); replace K2 := Lib.hid (K2.out.trans (hb.mono K2.out.size)); clear hb) | (go_at_call 11; with_reducible refine (PRd.out _ K0.out).mono ?_; rintro e w5 ⟨x5, rfl, hx, hb⟩; replace K0 := Lib.hid (K0.out.trans (hb.mono K0.out.size)); replace K1 := Lib.hid (K1.out.trans (hb.mono K1.out.size)); replace K2 := Lib.hid (K2.out.trans (hb.mono K2.out.size)); have X5 := Lib.hid hx; have K5 := Lib.hid (Below.refl w5.heap.size w5); clear hx hb) | (go_at_call 12; with_reducible refine (RRd.out _ K0.out).mono ?_; rintro e w6 ⟨x6, rfl, hx, hb⟩; replace K0 := Lib.hid (K0.out.trans (hb.mono K0.out.size)); replace K1 := Lib.hid (K1.out.trans (hb.mono K1.out.size)); replace K2 := Lib.hid (K2.out.trans (hb.mono K2.out.size)); replace K5 := Lib.hid (K5.out.trans (hb.mono K5.out.size)); have X6 := Lib.hid hx; have K6 := Lib.hid (Below.refl w6.heap.size w6); clear hx hb) | (go_at_call 13; with_reducible refine (same_eq _ _ O1 _ (X1.out.next K1.out) (X2.out.next K2.out)).mono ?_; rintro e w7 ⟨rfl, rfl⟩) | (go_at_call 13; with_reducible refine (same_eq _ _ O2 _ (X5.out.next K5.out) (X6.out.next K6.out)).mono ?_; rintro e w8 ⟨rfl, rfl⟩) | (go_at_call 14; with_reducible refine (PT.out _ K0.out).mono ?_; rintro e w9 ⟨rfl, hb⟩; replace K0 := Lib.hid (K0.out.trans (hb.mono K0.out.size)); replace K1 := Lib.hid (K1.out.trans (hb.mono K1.out.size)); replace K2 := Lib.hid (K2.out.trans (hb.mono K2.out.size)); replace K5 := Lib.hid (K5.out.trans (hb.mono K5.out.size)); replace K6 := Lib.hid (K6.out.trans (hb.mono K6.out.size)); clear hb) | (go_at_call 15; with_reducible refine (RT.out _ K0.out).mono ?_; rintro e w10 ⟨rfl, hb⟩; replace K0 := Lib.hid (K0.out.trans (hb.mono K0.out.size)); replace K1 := Lib.hid (K1.out.trans (hb.mono K1.out.size)); replace K2 := Lib.hid (K2.out.trans (hb.mono K2.out.size)); replace K5 := Lib.hid (K5.out.trans (hb.mono K5.out.size)); replace K6 := Lib.hid (K6.out.trans (hb.mono K6.out.size)); clear hb) | (go_at_call 6; with_reducible refine (HK.out _ K0.out).mono ?_; rintro e w11 ⟨rfl, hb⟩; replace K0 := Lib.hid (K0.out.trans (hb.mono K0.out.size)); replace K1 := Lib.hid (K1.out.trans (hb.mono K1.out.size)); replace K2 := Lib.hid (K2.out.trans (hb.mono K2.out.size)); replace K5 := Lib.hid (K5.out.trans (hb.mono K5.out.size)); replace K6 := Lib.hid (K6.out.trans (hb.mono K6.out.size)); clear hb))
  all_goals go_ret
  all_goals exact ⟨rfl, K0.out⟩

set_option maxHeartbeats 8000000 in
theorem largeRead_walk {N : Nat → Prop} (W : World) (hT : Tabs W) (v1 : Value) (As : List Int) (h1 : Bts N W v1 As) (b1 : Bytes As) (cs : List Int) (hcs : Bytes cs) :
    Calls Tryz.prog 5 #[.string (strOfNums cs), v1] W fun e W' => e = .returned (.bool true) ∧ Below W.heap.size W W' := by
  have HV1 := Lib.hid h1
  have HB1 := Lib.hid b1
  obtain ⟨l1, e1⟩ : ∃ n, As.length = n := ⟨_, rfl⟩
  have L1 := Lib.hid e1
  obtain ⟨va1, ca1, rfl, _⟩ := Bts.form h1
  rw [e1] at HV1 ⊢
  clear h1 b1 e1
  have HT := Lib.hid hT
  have HK := Lib.hid (fun w' (h : Below W.heap.size W w') => known_any w' (hT.next h))
  clear hT
  have K0 := Lib.hid (Below.refl W.heap.size W)
  have HCS := Lib.hid hcs
  obtain ⟨lc, ec⟩ : ∃ k, cs.length = k := ⟨_, rfl⟩
  have LC := Lib.hid ec
  have hsz : (strOfNums cs).size = lc := (strOfNums_size cs).trans ec
  clear hcs ec
  by_cases q2 : 300 < lc
  · have d2 : decide (300 < lc) = true := by simpa using q2
    have c2 : decide ((300 : Int) < lc) = true := by simpa using (by omega : (300 : Int) < lc)
    go_enter Tryz.func5, Tryz.ntmps5
    go_wp2_with (first | (go_at_call 6; with_reducible refine (HK.out _ K0.out).mono ?_; rintro e w1 ⟨rfl, hb⟩; replace K0 := Lib.hid (K0.out.trans (hb.mono K0.out.size)); clear hb))
    all_goals go_ret
    all_goals exact ⟨rfl, K0.out⟩
  have d2 : decide (300 < lc) = false := by simpa using q2
  have c2 : decide ((300 : Int) < lc) = false := by simpa using (by omega : ¬ (300 : Int) < lc)
  by_cases q1 : 60 < l1
  · have d1 : decide (60 < l1) = true := by simpa using q1
    have c1 : decide ((60 : Int) < l1) = true := by simpa using (by omega : (60 : Int) < l1)
    go_enter Tryz.func5, Tryz.ntmps5
    go_wp2_with (first | (go_at_call 6; with_reducible refine (HK.out _ K0.out).mono ?_; rintro e w1 ⟨rfl, hb⟩; replace K0 := Lib.hid (K0.out.trans (hb.mono K0.out.size)); clear hb))
    all_goals go_ret
    all_goals exact ⟨rfl, K0.out⟩
  have d1 : decide (60 < l1) = false := by simpa using q1
  have c1 : decide ((60 : Int) < l1) = false := by simpa using (by omega : ¬ (60 : Int) < l1)
  have PRd := Lib.hid (fun w' (_ : Below W.heap.size W w') => read_code cs w' HCS.out (by rw [LC.out]; omega))
  have RRd := Lib.hid (fun w' (_ : Below W.heap.size W w') => Calls.mono (read_ref cs w' HCS.out (by rw [LC.out]; omega)) (fun _ _ h => NumPost.b h))
  have PT := Lib.hid (fun w' (h : Below W.heap.size W w') => text_code _ As w' (HT.out.next h) (HV1.out.next h) HB1.out (by rw [L1.out]; omega))
  have RT := Lib.hid (fun w' (h : Below W.heap.size W w') => text_ref _ As w' (HV1.out.next h) HB1.out (by rw [L1.out]; omega))
  unfold NumB at PRd RRd
  unfold ValB at PT
  generalize readE cs = e2 at *
  generalize readO cs = O2 at *
  generalize strOfNums (textO As) = tx at *
  generalize strOfNums cs = cz at *
  have n2 : (e2 == e2) = true := by simp
  have n5 : (tx.toList == tx.toList) = true := by simp
  go_enter Tryz.func5, Tryz.ntmps5
  go_wp2_with (first | (go_at_call 11; with_reducible refine (PRd.out _ K0.out).mono ?_; rintro e w1 ⟨x1, rfl, hx, hb⟩; replace K0 := Lib.hid (K0.out.trans (hb.mono K0.out.size)); have X1 := Lib.hid hx; have K1 := Lib.hid (Below.refl w1.heap.size w1); clear hx hb) | (go_at_call 12; with_reducible refine (RRd.out _ K0.out).mono ?_; rintro e w2 ⟨x2, rfl, hx, hb⟩; replace K0 := Lib.hid (K0.out.trans (hb.mono K0.out.size)); replace K1 := Lib.hid (K1.out.trans (hb.mono K1.out.size)); have X2 := Lib.hid hx; have K2 := Lib.hid (Below.refl w2.heap.size w2); clear hx hb) | (go_at_call 13; with_reducible refine (same_eq _ _ O2 _ (X1.out.next K1.out) (X2.out.next K2.out)).mono ?_; rintro e w3 ⟨rfl, rfl⟩) | (go_at_call 14; with_reducible refine (PT.out _ K0.out).mono ?_; rintro e w4 ⟨rfl, hb⟩; replace K0 := Lib.hid (K0.out.trans (hb.mono K0.out.size)); replace K1 := Lib.hid (K1.out.trans (hb.mono K1.out.size)); replace K2 := Lib.hid (K2.out.trans (hb.mono K2.out.size)); clear hb) | (go_at_call 15; with_reducible refine (RT.out _ K0.out).mono ?_; rintro e w5 ⟨rfl, hb⟩; replace K0 := Lib.hid (K0.out.trans (hb.mono K0.out.size)); replace K1 := Lib.hid (K1.out.trans (hb.mono K1.out.size)); replace K2 := Lib.hid (K2.out.trans (hb.mono K2.out.size)); clear hb) | (go_at_call 6; with_reducible refine (HK.out _ K0.out).mono ?_; rintro e w6 ⟨rfl, hb⟩; replace K0 := Lib.hid (K0.out.trans (hb.mono K0.out.size)); replace K1 := Lib.hid (K1.out.trans (hb.mono K1.out.size)); replace K2 := Lib.hid (K2.out.trans (hb.mono K2.out.size)); clear hb))
  all_goals go_ret
  all_goals exact ⟨rfl, K0.out⟩
end Go.Proofs.YtbfacdfmanffdaaGreatDoor
