/- Proved: for all bytes a, n, b and m the law BitsApart returns true: two runs that have nothing in common may be taken in either order, two that have may not both be. No condition but that math/bits' table starts as the program's text lays it, which the card ties. -/
import Derived.Test.YtdhodglbhfjfaaaDoorLay
namespace Go.Proofs.YtdhodglbhfjfaaaDoor.bitsApart
open Go.ChangeShapes Go.WideShapes Go.ChangeAt Go.RowKit

def oneS (a i : Nat) : Nat → Bool := flipS (fun _ => false) a i
theorem oneS_at (a i k : Nat) : oneS a i k = decide (a ≤ k ∧ k < a + i) := by simp [oneS, flipS, inR]
theorem one_apart (a i b j : Nat) (h : a + i ≤ b ∨ b + j ≤ a) : cnt (oneS a i) b j = 0 := cnt_none fun k hk => by rw [oneS_at]; simp; omega
theorem one_meet (a i b j : Nat) (hi : 1 ≤ i) (hj : 1 ≤ j) (h1 : b < a + i) (h2 : a < b + j) : cnt (oneS a i) b j ≠ 0 := fun h => by
  have := of_cnt_none h (max a b - b) (by omega)
  rw [oneS_at] at this
  simp at this
  omega
theorem cnt_empty (a n : Nat) : cnt (fun _ => false) a n = 0 := cnt_none fun _ _ => rfl
theorem two_cnt (a i b j : Nat) (h : a + i ≤ b ∨ b + j ≤ a) (ha : a + i ≤ 600) (hb : b + j ≤ 600) : cnt (flipS (oneS a i) b j) 0 600 = i + j := by
  have h2 := cnt_flip (fun _ => false) a i 600 (cnt_empty a i) ha
  rw [cnt_flip _ b j 600 (one_apart a i b j h) hb]
  rw [cnt_empty] at h2
  show cnt (flipS (fun _ => false) a i) 0 600 + j = i + j
  omega

set_option maxHeartbeats 4000000 in
theorem walk_a (w : World) (hT : Tab w) (h0 : 0 < w.heap.size) (a n b k : Nat) (ha : a ≤ 255) (hn : n ≤ 255) (hb : b ≤ 255) (hk : k ≤ 255) (h : a + (1 + n) ≤ b) :
    Calls Tryd.prog 7 #[.int .u8 a, .int .u8 n, .int .u8 b, .int .u8 k] w fun e w' => e = .returned (.bool true) ∧ Below w.heap.size w w' := by
  obtain ⟨i, hi⟩ : ∃ i, 1 + n = i := ⟨_, rfl⟩
  obtain ⟨j, hj⟩ : ∃ j, 1 + k = j := ⟨_, rfl⟩
  have e1 : (1 : Int) + n = i := by omega
  have e2 : (1 : Int) + k = j := by omega
  have hi1 : 1 ≤ i := by omega
  have hi2 : i ≤ 256 := by omega
  have hj1 : 1 ≤ j := by omega
  have hj2 : j ≤ 256 := by omega
  have hap : a + i ≤ b ∨ b + j ≤ a := by omega
  have f1 : (a : Int) + i ≤ b := by omega
  have HA := Lib.hid hap
  have N1 := Lib.hid (show Calls Tryd.prog 9 #[.int .i64 600] w _ from new_yes 600 w (by decide))
  have HT := Lib.hid hT
  clear hT hi hj hap h
  obtain ⟨m1, hm1⟩ : ∃ m, w.heap.size + 1 = m := ⟨_, rfl⟩
  obtain ⟨x1, hx1⟩ : ∃ x, w.heap.size = x := ⟨_, rfl⟩
  have HX := Lib.hid hx1
  have HM := Lib.hid hm1
  rw [hm1, hx1] at N1
  clear hm1 hx1
  go_enter Tryd.func7, Tryd.ntmps7
  go_wp2_with fail
  refine N1.out.mono ?_
  rintro e w1 ⟨rfl, q1, b1⟩
  have M1 := Lib.hid q1
  have B1 := Lib.hid (show Below x1 w w1 from b1)
  have N2 := Lib.hid (show Calls Tryd.prog 9 #[.int .i64 600] w1 _ from new_yes 600 w1 (by decide))
  obtain ⟨m2, hm2⟩ : ∃ m, w1.heap.size + 1 = m := ⟨_, rfl⟩
  obtain ⟨x2, hx2⟩ : ∃ x, w1.heap.size = x := ⟨_, rfl⟩
  have HX2 := Lib.hid hx2
  have HM2 := Lib.hid hm2
  rw [hm2, hx2] at N2
  clear hm2 hx2 q1 b1 N1
  go_wp2_with fail
  refine N2.out.mono ?_
  rintro e w2 ⟨rfl, q2, b2⟩
  have Y2 := Lib.hid q2
  have B2 : Hid (Below w1.heap.size w1 w2) := by rw [HX2.out]; exact b2
  have X2 : Hid (MapAt w2 m1 x1 600 (fun _ => false)) := M1.out.below B2.out
  have D : Hid (x1 ≠ m2 ∧ x1 ≠ x2 ∧ x2 ≠ m1 ∧ x1 < w1.heap.size ∧ w1.heap.size ≤ x2 ∧ 0 < x1) := by
    have a1 := M1.out.mlt
    have a2 := HX.out
    have a3 := HM.out
    have a4 := HX2.out
    have a5 := HM2.out
    show _ ∧ _
    omega
  have T2 : Hid (Tab w2) := by
    have a1 := D.out
    exact (HT.out.below B1.out (by omega)).below B2.out (by omega)
  have L2 : Hid (0 < w2.heap.size) := by show 0 < w2.heap.size; have := X2.out.mlt; omega
  clear q2 b2 N2
  go_wp2_with fail
  refine (take_yes m1 x1 600 _ a i w2 X2.out hi1 (by omega) (cnt_empty a i)).mono ?_
  rintro e w3 ⟨rfl, q3, b3⟩
  have X3 : Hid (MapAt w3 m1 x1 600 (oneS a i)) := q3
  have B3 := Lib.hid b3
  have Y3 : Hid (MapAt w3 m2 x2 600 (fun _ => false)) := Y2.out.but b3 D.out.1 D.out.2.1
  have T3 : Hid (Tab w3) := T2.out.but b3 L2.out D.out.2.2.2.2.2
  clear q3 b3
  go_wp2_with fail
  refine (take_yes m1 x1 600 _ b j w3 X3.out hj1 (by omega) (one_apart a i b j HA.out)).mono ?_
  rintro e w4 ⟨rfl, q4, b4⟩
  have X4 := Lib.hid q4
  have B4 : Hid (But x1 w2 w4) := B3.out.trans b4
  have Y4 : Hid (MapAt w4 m2 x2 600 (fun _ => false)) := Y3.out.but b4 D.out.1 D.out.2.1
  have T4 : Hid (Tab w4) := T3.out.but b4 (by have := X3.out.mlt; omega) D.out.2.2.2.2.2
  clear q4 b4
  go_wp2_with fail
  refine (take_yes m2 x2 600 _ b j w4 Y4.out hj1 (by omega) (cnt_empty b j)).mono ?_
  rintro e w5 ⟨rfl, q5, b5⟩
  have Y5 : Hid (MapAt w5 m2 x2 600 (oneS b j)) := q5
  have B5 := Lib.hid b5
  have X5 := Lib.hid (X4.out.but b5 D.out.2.2.1 (Ne.symm D.out.2.1))
  have T5 : Hid (Tab w5) := T4.out.but b5 (by have := X4.out.mlt; omega) (by have := D.out; omega)
  clear q5 b5
  go_wp2_with fail
  refine (take_yes m2 x2 600 _ a i w5 Y5.out hi1 (by omega) (one_apart b j a i HA.out.symm)).mono ?_
  rintro e w6 ⟨rfl, q6, b6⟩
  have Y6 := Lib.hid q6
  have B6 : Hid (But x2 w4 w6) := B5.out.trans b6
  have X6 := Lib.hid (X5.out.but b6 D.out.2.2.1 (Ne.symm D.out.2.1))
  have T6 : Hid (Tab w6) := T5.out.but b6 (by have := X5.out.mlt; omega) (by have := D.out; omega)
  clear q6 b6
  go_wp2_with fail
  refine (taken_any m1 x1 600 _ _ X6.out).mono ?_
  rw [two_cnt a i b j HA.out (by omega) (by omega), show ((i + j : Nat) : Int) = (i : Int) + j by omega]
  rintro e w7 ⟨rfl, d7, rfl⟩
  go_wp2_with fail
  refine (taken_any m2 x2 600 (flipS (oneS b j) a i) _ ?c1).mono ?_
  case c1 => exact Y6.out.heap rfl
  rw [two_cnt b j a i HA.out.symm (by omega) (by omega), show ((j + i : Nat) : Int) = (i : Int) + j by omega]
  rintro e w8 ⟨rfl, d8, rfl⟩
  go_wp2_with fail
  refine (known_true _ ?c8 ?c9).mono ?_
  case c8 => exact T6.out
  case c9 => exact (show 0 < w6.heap.size by have := X6.out.mlt; omega)
  rintro e w9 ⟨rfl, hb9⟩
  have B9 : Hid (Below w6.heap.size w6 w9) := ⟨hb9.os, hb9.tape, hb9.output, hb9.size, hb9.block⟩
  clear hb9
  go_wp2_with fail
  go_ret
  refine ⟨rfl, ?_⟩
  have hx := HX.out
  subst hx
  have g2 := B1.out.trans (B2.out.mono B1.out.size)
  have g4 := g2.trans (B4.out.below (Nat.le_refl _) g2.size)
  have g6 := g4.trans (B6.out.below (by have := D.out; omega) g4.size)
  exact g6.trans (B9.out.mono g6.size)

set_option maxHeartbeats 4000000 in
theorem walk_b (w : World) (hT : Tab w) (h0 : 0 < w.heap.size) (a n b k : Nat) (ha : a ≤ 255) (hn : n ≤ 255) (hb : b ≤ 255) (hk : k ≤ 255) (h : b + (1 + k) ≤ a) :
    Calls Tryd.prog 7 #[.int .u8 a, .int .u8 n, .int .u8 b, .int .u8 k] w fun e w' => e = .returned (.bool true) ∧ Below w.heap.size w w' := by
  obtain ⟨i, hi⟩ : ∃ i, 1 + n = i := ⟨_, rfl⟩
  obtain ⟨j, hj⟩ : ∃ j, 1 + k = j := ⟨_, rfl⟩
  have e1 : (1 : Int) + n = i := by omega
  have e2 : (1 : Int) + k = j := by omega
  have hi1 : 1 ≤ i := by omega
  have hi2 : i ≤ 256 := by omega
  have hj1 : 1 ≤ j := by omega
  have hj2 : j ≤ 256 := by omega
  have hap : a + i ≤ b ∨ b + j ≤ a := by omega
  have f1 : ¬ (a : Int) + i ≤ b := by omega
  have f2 : (b : Int) + j ≤ a := by omega
  have HA := Lib.hid hap
  have N1 := Lib.hid (show Calls Tryd.prog 9 #[.int .i64 600] w _ from new_yes 600 w (by decide))
  have HT := Lib.hid hT
  clear hT hi hj hap h
  obtain ⟨m1, hm1⟩ : ∃ m, w.heap.size + 1 = m := ⟨_, rfl⟩
  obtain ⟨x1, hx1⟩ : ∃ x, w.heap.size = x := ⟨_, rfl⟩
  have HX := Lib.hid hx1
  have HM := Lib.hid hm1
  rw [hm1, hx1] at N1
  clear hm1 hx1
  go_enter Tryd.func7, Tryd.ntmps7
  go_wp2_with fail
  refine N1.out.mono ?_
  rintro e w1 ⟨rfl, q1, b1⟩
  have M1 := Lib.hid q1
  have B1 := Lib.hid (show Below x1 w w1 from b1)
  have N2 := Lib.hid (show Calls Tryd.prog 9 #[.int .i64 600] w1 _ from new_yes 600 w1 (by decide))
  obtain ⟨m2, hm2⟩ : ∃ m, w1.heap.size + 1 = m := ⟨_, rfl⟩
  obtain ⟨x2, hx2⟩ : ∃ x, w1.heap.size = x := ⟨_, rfl⟩
  have HX2 := Lib.hid hx2
  have HM2 := Lib.hid hm2
  rw [hm2, hx2] at N2
  clear hm2 hx2 q1 b1 N1
  go_wp2_with fail
  refine N2.out.mono ?_
  rintro e w2 ⟨rfl, q2, b2⟩
  have Y2 := Lib.hid q2
  have B2 : Hid (Below w1.heap.size w1 w2) := by rw [HX2.out]; exact b2
  have X2 : Hid (MapAt w2 m1 x1 600 (fun _ => false)) := M1.out.below B2.out
  have D : Hid (x1 ≠ m2 ∧ x1 ≠ x2 ∧ x2 ≠ m1 ∧ x1 < w1.heap.size ∧ w1.heap.size ≤ x2 ∧ 0 < x1) := by
    have a1 := M1.out.mlt
    have a2 := HX.out
    have a3 := HM.out
    have a4 := HX2.out
    have a5 := HM2.out
    show _ ∧ _
    omega
  have T2 : Hid (Tab w2) := by
    have a1 := D.out
    exact (HT.out.below B1.out (by omega)).below B2.out (by omega)
  have L2 : Hid (0 < w2.heap.size) := by show 0 < w2.heap.size; have := X2.out.mlt; omega
  clear q2 b2 N2
  go_wp2_with fail
  refine (take_yes m1 x1 600 _ a i w2 X2.out hi1 (by omega) (cnt_empty a i)).mono ?_
  rintro e w3 ⟨rfl, q3, b3⟩
  have X3 : Hid (MapAt w3 m1 x1 600 (oneS a i)) := q3
  have B3 := Lib.hid b3
  have Y3 : Hid (MapAt w3 m2 x2 600 (fun _ => false)) := Y2.out.but b3 D.out.1 D.out.2.1
  have T3 : Hid (Tab w3) := T2.out.but b3 L2.out D.out.2.2.2.2.2
  clear q3 b3
  go_wp2_with fail
  refine (take_yes m1 x1 600 _ b j w3 X3.out hj1 (by omega) (one_apart a i b j HA.out)).mono ?_
  rintro e w4 ⟨rfl, q4, b4⟩
  have X4 := Lib.hid q4
  have B4 : Hid (But x1 w2 w4) := B3.out.trans b4
  have Y4 : Hid (MapAt w4 m2 x2 600 (fun _ => false)) := Y3.out.but b4 D.out.1 D.out.2.1
  have T4 : Hid (Tab w4) := T3.out.but b4 (by have := X3.out.mlt; omega) D.out.2.2.2.2.2
  clear q4 b4
  go_wp2_with fail
  refine (take_yes m2 x2 600 _ b j w4 Y4.out hj1 (by omega) (cnt_empty b j)).mono ?_
  rintro e w5 ⟨rfl, q5, b5⟩
  have Y5 : Hid (MapAt w5 m2 x2 600 (oneS b j)) := q5
  have B5 := Lib.hid b5
  have X5 := Lib.hid (X4.out.but b5 D.out.2.2.1 (Ne.symm D.out.2.1))
  have T5 : Hid (Tab w5) := T4.out.but b5 (by have := X4.out.mlt; omega) (by have := D.out; omega)
  clear q5 b5
  go_wp2_with fail
  refine (take_yes m2 x2 600 _ a i w5 Y5.out hi1 (by omega) (one_apart b j a i HA.out.symm)).mono ?_
  rintro e w6 ⟨rfl, q6, b6⟩
  have Y6 := Lib.hid q6
  have B6 : Hid (But x2 w4 w6) := B5.out.trans b6
  have X6 := Lib.hid (X5.out.but b6 D.out.2.2.1 (Ne.symm D.out.2.1))
  have T6 : Hid (Tab w6) := T5.out.but b6 (by have := X5.out.mlt; omega) (by have := D.out; omega)
  clear q6 b6
  go_wp2_with fail
  refine (taken_any m1 x1 600 _ _ X6.out).mono ?_
  rw [two_cnt a i b j HA.out (by omega) (by omega), show ((i + j : Nat) : Int) = (i : Int) + j by omega]
  rintro e w7 ⟨rfl, d7, rfl⟩
  go_wp2_with fail
  refine (taken_any m2 x2 600 (flipS (oneS b j) a i) _ ?c1).mono ?_
  case c1 => exact Y6.out.heap rfl
  rw [two_cnt b j a i HA.out.symm (by omega) (by omega), show ((j + i : Nat) : Int) = (i : Int) + j by omega]
  rintro e w8 ⟨rfl, d8, rfl⟩
  go_wp2_with fail
  refine (known_true _ ?c8 ?c9).mono ?_
  case c8 => exact T6.out
  case c9 => exact (show 0 < w6.heap.size by have := X6.out.mlt; omega)
  rintro e w9 ⟨rfl, hb9⟩
  have B9 : Hid (Below w6.heap.size w6 w9) := ⟨hb9.os, hb9.tape, hb9.output, hb9.size, hb9.block⟩
  clear hb9
  go_wp2_with fail
  go_ret
  refine ⟨rfl, ?_⟩
  have hx := HX.out
  subst hx
  have g2 := B1.out.trans (B2.out.mono B1.out.size)
  have g4 := g2.trans (B4.out.below (Nat.le_refl _) g2.size)
  have g6 := g4.trans (B6.out.below (by have := D.out; omega) g4.size)
  exact g6.trans (B9.out.mono g6.size)

set_option maxHeartbeats 4000000 in
theorem walk_c (w : World) (hT : Tab w) (h0 : 0 < w.heap.size) (a n b k : Nat) (ha : a ≤ 255) (hn : n ≤ 255) (hb : b ≤ 255) (hk : k ≤ 255) (h : b < a + (1 + n)) (h' : a < b + (1 + k)) :
    Calls Tryd.prog 7 #[.int .u8 a, .int .u8 n, .int .u8 b, .int .u8 k] w fun e w' => e = .returned (.bool true) ∧ Below w.heap.size w w' := by
  obtain ⟨i, hi⟩ : ∃ i, 1 + n = i := ⟨_, rfl⟩
  obtain ⟨j, hj⟩ : ∃ j, 1 + k = j := ⟨_, rfl⟩
  have e1 : (1 : Int) + n = i := by omega
  have e2 : (1 : Int) + k = j := by omega
  have hi1 : 1 ≤ i := by omega
  have hi2 : i ≤ 256 := by omega
  have hj1 : 1 ≤ j := by omega
  have hj2 : j ≤ 256 := by omega
  have f1 : ¬ (a : Int) + i ≤ b := by omega
  have f2 : ¬ (b : Int) + j ≤ a := by omega
  have N1 := Lib.hid (show Calls Tryd.prog 9 #[.int .i64 600] w _ from new_yes 600 w (by decide))
  have HT := Lib.hid hT
  clear hT hi hj h h'
  obtain ⟨m1, hm1⟩ : ∃ m, w.heap.size + 1 = m := ⟨_, rfl⟩
  obtain ⟨x1, hx1⟩ : ∃ x, w.heap.size = x := ⟨_, rfl⟩
  have HX := Lib.hid hx1
  have HM := Lib.hid hm1
  rw [hm1, hx1] at N1
  clear hm1 hx1
  go_enter Tryd.func7, Tryd.ntmps7
  go_wp2_with fail
  refine N1.out.mono ?_
  rintro e w1 ⟨rfl, q1, b1⟩
  have M1 := Lib.hid q1
  have B1 := Lib.hid (show Below x1 w w1 from b1)
  have N2 := Lib.hid (show Calls Tryd.prog 9 #[.int .i64 600] w1 _ from new_yes 600 w1 (by decide))
  obtain ⟨m2, hm2⟩ : ∃ m, w1.heap.size + 1 = m := ⟨_, rfl⟩
  obtain ⟨x2, hx2⟩ : ∃ x, w1.heap.size = x := ⟨_, rfl⟩
  have HX2 := Lib.hid hx2
  have HM2 := Lib.hid hm2
  rw [hm2, hx2] at N2
  clear hm2 hx2 q1 b1 N1
  go_wp2_with fail
  refine N2.out.mono ?_
  rintro e w2 ⟨rfl, q2, b2⟩
  have Y2 := Lib.hid q2
  have B2 : Hid (Below w1.heap.size w1 w2) := by rw [HX2.out]; exact b2
  have X2 : Hid (MapAt w2 m1 x1 600 (fun _ => false)) := M1.out.below B2.out
  have D : Hid (x1 ≠ m2 ∧ x1 ≠ x2 ∧ x2 ≠ m1 ∧ x1 < w1.heap.size ∧ w1.heap.size ≤ x2 ∧ 0 < x1) := by
    have a1 := M1.out.mlt
    have a2 := HX.out
    have a3 := HM.out
    have a4 := HX2.out
    have a5 := HM2.out
    show _ ∧ _
    omega
  have T2 : Hid (Tab w2) := by
    have a1 := D.out
    exact (HT.out.below B1.out (by omega)).below B2.out (by omega)
  have L2 : Hid (0 < w2.heap.size) := by show 0 < w2.heap.size; have := X2.out.mlt; omega
  clear q2 b2 N2
  go_wp2_with fail
  refine (take_yes m1 x1 600 _ a i w2 X2.out hi1 (by omega) (cnt_empty a i)).mono ?_
  rintro e w3 ⟨rfl, q3, b3⟩
  have X3 : Hid (MapAt w3 m1 x1 600 (oneS a i)) := q3
  have B3 := Lib.hid b3
  have Y3 : Hid (MapAt w3 m2 x2 600 (fun _ => false)) := Y2.out.but b3 D.out.1 D.out.2.1
  have T3 : Hid (Tab w3) := T2.out.but b3 L2.out D.out.2.2.2.2.2
  clear q3 b3
  go_wp2_with fail
  refine (take_full m1 x1 600 _ b j w3 X3.out hj1 (by omega) (one_meet a i b j hi1 hj1 (by omega) (by omega))).mono ?_
  rintro e w4 ⟨rfl, d4, hw4⟩
  have X4 : Hid (MapAt w4 m1 x1 600 (oneS a i)) := by rw [hw4]; exact X3.out.drewN d4
  have B4 : Hid (But x1 w2 w4) := by rw [hw4]; exact B3.out.drewN d4
  have Y4 : Hid (MapAt w4 m2 x2 600 (fun _ => false)) := by rw [hw4]; exact Y3.out.drewN d4
  have T4 : Hid (Tab w4) := by rw [hw4]; exact T3.out
  clear hw4
  go_wp2_with fail
  refine (take_yes m2 x2 600 _ b j w4 Y4.out hj1 (by omega) (cnt_empty b j)).mono ?_
  rintro e w5 ⟨rfl, q5, b5⟩
  have Y5 : Hid (MapAt w5 m2 x2 600 (oneS b j)) := q5
  have B5 := Lib.hid b5
  have X5 := Lib.hid (X4.out.but b5 D.out.2.2.1 (Ne.symm D.out.2.1))
  have T5 : Hid (Tab w5) := T4.out.but b5 (by have := X4.out.mlt; omega) (by have := D.out; omega)
  clear q5 b5
  go_wp2_with fail
  refine (take_full m2 x2 600 _ a i w5 Y5.out hi1 (by omega) (one_meet b j a i hj1 hi1 (by omega) (by omega))).mono ?_
  rintro e w6 ⟨rfl, d6, hw6⟩
  have Y6 : Hid (MapAt w6 m2 x2 600 (oneS b j)) := by rw [hw6]; exact Y5.out.drewN d6
  have B6 : Hid (But x2 w4 w6) := by rw [hw6]; exact B5.out.drewN d6
  have X6 : Hid (MapAt w6 m1 x1 600 (oneS a i)) := by rw [hw6]; exact X5.out.drewN d6
  have T6 : Hid (Tab w6) := by rw [hw6]; exact T5.out
  clear hw6
  go_wp2_with fail
  refine (known_true _ ?c8 ?c9).mono ?_
  case c8 => exact T6.out
  case c9 => exact (show 0 < w6.heap.size by have := X6.out.mlt; omega)
  rintro e w9 ⟨rfl, hb9⟩
  have B9 : Hid (Below w6.heap.size w6 w9) := ⟨hb9.os, hb9.tape, hb9.output, hb9.size, hb9.block⟩
  clear hb9
  go_wp2_with fail
  go_ret
  refine ⟨rfl, ?_⟩
  have hx := HX.out
  subst hx
  have g2 := B1.out.trans (B2.out.mono B1.out.size)
  have g4 := g2.trans (B4.out.below (Nat.le_refl _) g2.size)
  have g6 := g4.trans (B6.out.below (by have := D.out; omega) g4.size)
  exact g6.trans (B9.out.mono g6.size)

theorem walk (w : World) (hT : Tab w) (h0 : 0 < w.heap.size) (a : Int) (wa : (Lit.int .u8 a).wf = true) (n : Int) (wn : (Lit.int .u8 n).wf = true) (b : Int) (wb : (Lit.int .u8 b).wf = true) (k : Int) (wk : (Lit.int .u8 k).wf = true) :
    Calls Tryd.prog 7 #[.int .u8 a, .int .u8 n, .int .u8 b, .int .u8 k] w fun e w' => e = .returned (.bool true) ∧ Below w.heap.size w w' := by
  have h1 := wf_u8 wa
  have h2 := wf_u8 wn
  have h3 := wf_u8 wb
  have h4 := wf_u8 wk
  obtain ⟨a, rfl⟩ := Int.eq_ofNat_of_zero_le h1.1
  obtain ⟨n, rfl⟩ := Int.eq_ofNat_of_zero_le h2.1
  obtain ⟨b, rfl⟩ := Int.eq_ofNat_of_zero_le h3.1
  obtain ⟨k, rfl⟩ := Int.eq_ofNat_of_zero_le h4.1
  by_cases c1 : a + (1 + n) ≤ b
  · exact walk_a w hT h0 a n b k (by omega) (by omega) (by omega) (by omega) c1
  · by_cases c2 : b + (1 + k) ≤ a
    · exact walk_b w hT h0 a n b k (by omega) (by omega) (by omega) (by omega) c2
    · exact walk_c w hT h0 a n b k (by omega) (by omega) (by omega) (by omega) (by omega) (by omega)


set_option maxRecDepth 100000 in
theorem lifted (os : Os) (started : os.Started) (H : Type) (enc : TypeId × Value → H) :
    ReturnsInHanded {} Tryd.checked os 7 .any (fun w args => (Rows.bitsApartSpec.pre enc Tryd.prog Tryd.f7 [] false w args ∧ laidMetH Tryd.prog theLaid w) ∧ sizedMet enc Tryd.prog Tryd.f7 (OpenSpec.ofChange Rows.bitsApartSpec) false w args)
      (Rows.bitsApartSpec.post enc Tryd.prog Tryd.f7 false true false false) := by
  refine returnsInHanded_of_change_and (C := Tryd.checked) (X := fun w _ => laidMetH Tryd.prog theLaid w) (fun _ _ _ hh h => h.of_heap hh) Tryd.own started (by kernel_rfl) Tryd.func7
    (ChangeSpec.witness_shaped (enc := enc) (C := Tryd.checked) (os := os) (X := fun w _ => laidMetH Tryd.prog theLaid w) false (World.doorLaid Tryd.prog 400 os) #[.int .u8 0, .int .u8 0, .int .u8 0, .int .u8 0] 8 rfl (World.shaped_of_RefB (by kernel_rfl) (by kernel_rfl)) (by kernel_rfl) (by kernel_rfl) (by kernel_rfl) (door_met os _)) ?_
  intro W base args ds gs before hval0 hW _ _ hL _
  have hval : ∀ (j : Nat) t v, Tryd.f7.params[j]? = some t → args[j]? = some v → Value.okWide Tryd.prog W .any base t v := hval0
  have hW' := hW
  obtain ⟨p, q, hA0, hV, rfl, _, _⟩ := hW
  have hA : DataW.TrodAll enc Tryd.prog W 0 (fun _ => true) true Tryd.f7.params.toList args.toList ds p := hA0
  rw [Tryd.params7] at hA hval
  obtain ⟨v0, vs0, d0, ds0, p0, q0, hargs, rfl, rfl, h0, r0⟩ := trodAll_cons hA
  obtain ⟨v1, vs1, d1, ds1, p1, q1, rfl, rfl, rfl, h1, r1⟩ := trodAll_cons r0
  obtain ⟨v2, vs2, d2, ds2, p2, q2, rfl, rfl, rfl, h2, r2⟩ := trodAll_cons r1
  obtain ⟨v3, vs3, d3, ds3, p3, q3, rfl, rfl, rfl, h3, r3⟩ := trodAll_cons r2
  obtain ⟨rfl, rfl, rfl⟩ := trodAll_nil r3
  obtain rfl : args = #[v0, v1, v2, v3] := by cases args; simp_all
  obtain ⟨rfl, rfl⟩ := trodVars_none hV
  obtain ⟨a0, rfl, rfl, rfl, w0⟩ := open_int Tryd.underlying5 (hval 0 5 v0 rfl rfl) h0
  obtain ⟨a1, rfl, rfl, rfl, w1⟩ := open_int Tryd.underlying5 (hval 1 5 v1 rfl rfl) h1
  obtain ⟨a2, rfl, rfl, rfl, w2⟩ := open_int Tryd.underlying5 (hval 2 5 v2 rfl rfl) h2
  obtain ⟨a3, rfl, rfl, rfl, w3⟩ := open_int Tryd.underlying5 (hval 3 5 v3 rfl rfl) h3
  clear hA0 hval0
  simp only [List.append_nil] at hW'
  obtain ⟨hT, h00⟩ := tab_of_laid hL
  refine (walk W hT h00 a0 w0 a1 w1 a2 w2 a3 w3).mono fun e W' ⟨he, hg⟩ => ?_
  subst he
  exact ⟨_, rfl, _, _, _, [], _, [], hW', (trodAll_cons_mk (shut_bool Tryd.underlying4 _) trodAll_mk0), (trodAll_cons_mk (shut_int Tryd.underlying5 w0) (trodAll_cons_mk (shut_int Tryd.underlying5 w1) (trodAll_cons_mk (shut_int Tryd.underlying5 w2) (trodAll_cons_mk (shut_int Tryd.underlying5 w3) trodAll_mk0)))), rfl, hg.frame _, fun h => by cases h⟩

theorem over : Rows.bitsApartRow.holds Tryd.pinned (OpenSpec.ofChange Rows.bitsApartSpec) :=
  OpenClaim.holds_of_wide 7 Tryd.f7 rfl rfl rfl rfl rfl rfl rfl ⟨rfl, rfl, rfl, rfl, rfl⟩ rfl rfl rfl rfl rfl (by kernel_rfl) Tryd.func7 (by kernel_rfl)
    (of_decide_eq_true (by kernel_rfl)) (by unfold Func.isWrapper; first | (rw [if_pos (by decide +kernel)]; kernel_rfl) | (rw [if_neg (by decide +kernel)]; exact ⟨rfl, rfl⟩))
    (fun os started H enc _ => lifted os started H enc)
end Go.Proofs.YtdhodglbhfjfaaaDoor.bitsApart
namespace Go.Proofs.YtdhodglbhfjfaaaDoor
open Go
theorem bitsApart_holds : Rows.BitsApartCardSaid :=
  Claim7.holds_tied_plain_at .later [] [.data] true (true, "5e291a71a13c3398cfc2698423a671421766ed3e1958b79b578a83f7829fa2b9") false
    bitsApart.over (fun _ h => by cases h) (by kernel_rfl) (fun _ h => by cases h) bitsApart_row_tie rfl ⟨rfl, rfl⟩ (by kernel_rfl) rfl
    (fun f fn hf hfn => by
      obtain rfl : f = 7 := Option.some.inj ((show Tryd.prog.funcNamed Rows.bitsApartRow.func = some 7 by kernel_rfl).symm.trans hf) |>.symm
      obtain rfl : fn = Tryd.f7 := (Option.some.inj (Tryd.func7.symm.trans hfn)).symm
      exact ⟨by kernel_rfl, fun j t ht => by
        rw [Tryd.params7] at ht
        have hm : t ∈ [5, 5, 5, 5] := by simpa using Array.mem_of_getElem? ht
        have hall : ([5, 5, 5, 5].all fun u => !Tryd.prog.wantsStandIn u) = true := by kernel_rfl
        exact (show Tryd.prog.wantsStandIn t = false by simpa using List.all_eq_true.1 hall t hm)⟩)
    (by kernel_rfl)
end Go.Proofs.YtdhodglbhfjfaaaDoor
