/- The walk of the law WideSame: it returns true for all pairs of objects. -/
import Derived.Test.YtbkojjbigilclaaSma
namespace Go.Proofs.Ytbkojjbigilclaa
open Go.ChangeShapes Go.WideShapes Go.ChangeAt Go.RowKit
set_option maxRecDepth 1000000


set_option maxHeartbeats 4000000 in
theorem same_main (w : World) (c k : Int) (l b : List Int) (a1 a2 : Option Addr) (c1 c2 : Nat) (c' k' : Int) (l' b' : List Int) (a3 a4 : Option Addr) (c3 c4 : Nat) (hb0 : ObjAt w (.agg #[.int .i64 c, .int .i64 k, .slice a1 l.length c1, .slice a2 b.length c2]) ⟨c, k, l, b⟩) (hb1 : ObjAt w (.agg #[.int .i64 c', .int .i64 k', .slice a3 l'.length c3, .slice a4 b'.length c4]) ⟨c', k', l', b'⟩) (hl0 : longO ⟨c, k, l, b⟩ = false) (hl1 : longO ⟨c', k', l', b'⟩ = false) :
    Calls Try.prog 5 #[.agg #[.int .i64 c, .int .i64 k, .slice a1 l.length c1, .slice a2 b.length c2], .agg #[.int .i64 c', .int .i64 k', .slice a3 l'.length c3, .slice a4 b'.length c4]] w fun e w' => e = .returned (.bool true) ∧ Below w.heap.size w w' := by
  have HN : Hid (∀ w', Calls Try.prog 12 #[] w' fun e w'' => e = .returned (.bool true) ∧ Below w'.heap.size w' w'') := known_true
  have HLA : Hid (∀ w', Hid (Sm w (c, k, .slice a1 l.length c1, .slice a2 b.length c2) (c', k', .slice a3 l'.length c3, .slice a4 b'.length c4) w') → Calls Try.prog 11 #[.agg #[.int .i64 c, .int .i64 k, .slice a1 l.length c1, .slice a2 b.length c2]] w' fun e w'' => e = .returned (.bool false) ∧ Below w'.heap.size w' w'') := fun w' h => (long_any _ _ w' (hb0.kept h.out.2.2)).mono fun _ _ h => by rw [hl0] at h; exact h
  have HLB : Hid (∀ w', Hid (Sm w (c, k, .slice a1 l.length c1, .slice a2 b.length c2) (c', k', .slice a3 l'.length c3, .slice a4 b'.length c4) w') → Calls Try.prog 11 #[.agg #[.int .i64 c', .int .i64 k', .slice a3 l'.length c3, .slice a4 b'.length c4]] w' fun e w'' => e = .returned (.bool false) ∧ Below w'.heap.size w' w'') := fun w' h => (long_any _ _ w' (hb1.kept h.out.2.2)).mono fun _ _ h => by rw [hl1] at h; exact h
  have HEA : Hid (∀ w', Hid (Sm w (c, k, .slice a1 l.length c1, .slice a2 b.length c2) (c', k', .slice a3 l'.length c3, .slice a4 b'.length c4) w') → Calls Try.prog 13 #[.agg #[.int .i64 c, .int .i64 k, .slice a1 l.length c1, .slice a2 b.length c2]] w' (EncG (encG ⟨c, k, l, b⟩) (chk ⟨c, k, l, b⟩) w')) := fun w' h => encode_g _ _ w' (hb0.kept h.out.2.2)
  have HEB : Hid (∀ w', Hid (Sm w (c, k, .slice a1 l.length c1, .slice a2 b.length c2) (c', k', .slice a3 l'.length c3, .slice a4 b'.length c4) w') → Calls Try.prog 13 #[.agg #[.int .i64 c', .int .i64 k', .slice a3 l'.length c3, .slice a4 b'.length c4]] w' (EncG (encG ⟨c', k', l', b'⟩) (chk ⟨c', k', l', b'⟩) w')) := fun w' h => encode_g _ _ w' (hb1.kept h.out.2.2)
  have sa := short_of' hl0
  have sb := short_of' hl1
  have HAB : Hid (∀ w', Hid (Sm w (c, k, .slice a1 l.length c1, .slice a2 b.length c2) (c', k', .slice a3 l'.length c3, .slice a4 b'.length c4) w') → Calls Try.prog 27 #[.agg #[.int .i64 c, .int .i64 k, .slice a1 l.length c1, .slice a2 b.length c2], .agg #[.int .i64 c', .int .i64 k', .slice a3 l'.length c3, .slice a4 b'.length c4]] w' fun e w'' => e = .returned (.bool (sameO ⟨c, k, l, b⟩ ⟨c', k', l', b'⟩)) ∧ Below w'.heap.size w' w'') := fun w' h => same_wide _ _ _ _ w' (hb0.kept h.out.2.2) (hb1.kept h.out.2.2) sa sb
  have HBA : Hid (∀ w', Hid (Sm w (c, k, .slice a1 l.length c1, .slice a2 b.length c2) (c', k', .slice a3 l'.length c3, .slice a4 b'.length c4) w') → Calls Try.prog 27 #[.agg #[.int .i64 c', .int .i64 k', .slice a3 l'.length c3, .slice a4 b'.length c4], .agg #[.int .i64 c, .int .i64 k, .slice a1 l.length c1, .slice a2 b.length c2]] w' fun e w'' => e = .returned (.bool (sameO ⟨c, k, l, b⟩ ⟨c', k', l', b'⟩)) ∧ Below w'.heap.size w' w'') := fun w' h => by
    have := same_wide _ _ _ _ w' (hb1.kept h.out.2.2) (hb0.kept h.out.2.2) sb sa
    unfold SamePost at this
    rw [sameO_comm] at this
    exact this
  have HAA : Hid (∀ w', Hid (Sm w (c, k, .slice a1 l.length c1, .slice a2 b.length c2) (c', k', .slice a3 l'.length c3, .slice a4 b'.length c4) w') → Calls Try.prog 27 #[.agg #[.int .i64 c, .int .i64 k, .slice a1 l.length c1, .slice a2 b.length c2], .agg #[.int .i64 c, .int .i64 k, .slice a1 l.length c1, .slice a2 b.length c2]] w' fun e w'' => e = .returned (.bool true) ∧ Below w'.heap.size w' w'') := fun w' h => by
    have := same_wide _ _ _ _ w' (hb0.kept h.out.2.2) (hb0.kept h.out.2.2) sa sa
    unfold SamePost at this
    rw [sameO_self] at this
    exact this
  have HRAB : Hid (∀ w', Hid (Sm w (c, k, .slice a1 l.length c1, .slice a2 b.length c2) (c', k', .slice a3 l'.length c3, .slice a4 b'.length c4) w') → Calls Try.prog 20 #[.agg #[.int .i64 c, .int .i64 k, .slice a1 l.length c1, .slice a2 b.length c2], .agg #[.int .i64 c', .int .i64 k', .slice a3 l'.length c3, .slice a4 b'.length c4]] w' fun e w'' => e = .returned (.bool (sameO ⟨c, k, l, b⟩ ⟨c', k', l', b'⟩)) ∧ Below w'.heap.size w' w'') := fun w' h => same_ref _ _ _ _ w' (hb0.kept h.out.2.2) (hb1.kept h.out.2.2) sa sb
  have HRCA : Hid (∀ w' v, Hid (Sm w (c, k, .slice a1 l.length c1, .slice a2 b.length c2) (c', k', .slice a3 l'.length c3, .slice a4 b'.length c4) w') → ObjAt w' v ⟨c, k, l, b⟩ → Calls Try.prog 20 #[v, .agg #[.int .i64 c, .int .i64 k, .slice a1 l.length c1, .slice a2 b.length c2]] w' fun e w'' => e = .returned (.bool true) ∧ Below w'.heap.size w' w'') := fun w' v h ho => by
    have := same_ref _ _ _ _ w' ho (hb0.kept h.out.2.2) sa sa
    unfold SamePost at this
    rw [sameO_self] at this
    exact this
  have HCP : Hid (∀ w', Hid (Sm w (c, k, .slice a1 l.length c1, .slice a2 b.length c2) (c', k', .slice a3 l'.length c3, .slice a4 b'.length c4) w') → Calls Try.prog 28 #[.agg #[.int .i64 c, .int .i64 k, .slice a1 l.length c1, .slice a2 b.length c2]] w' (CopyPost ⟨c, k, l, b⟩ w')) := fun w' h => copyO_any _ _ w' (hb0.kept h.out.2.2) sa
  have HIA : Hid (I64 l ∧ In64 c ∧ In64 k ∧ ByL b ∧ l.length ≤ 1200 ∧ b.length ≤ 1200) := by
    obtain ⟨h1, h2⟩ := hb0.rows
    obtain ⟨_, _, _, _, _, h3, h4⟩ := hb0
    exact ⟨h1.2.1, h3, h4, h2.2.1, short_of hl0⟩
  have hlen : l.length ≤ 1200 := (short_of hl0).1
  have HYA := Lib.hid (encG_byL (o := ⟨c, k, l, b⟩) HIA.out.2.2.2.1)
  have HYB := Lib.hid (encG_byL (o := ⟨c', k', l', b'⟩) hb1.rows.2.2.1)
  have HSX : Hid (chk ⟨c, k, l, b⟩ = 0 → chk ⟨c', k', l', b'⟩ = 0 → decide (encG ⟨c, k, l, b⟩ = encG ⟨c', k', l', b'⟩) = sameO ⟨c, k, l, b⟩ ⟨c', k', l', b'⟩) := fun h1 h2 => by
    have g1 : okO ⟨c, k, l, b⟩ = true := by
      cases h : okO ⟨c, k, l, b⟩ with
      | true => rfl
      | false => rw [chk_not h] at h1; cases h1
    have g2 : okO ⟨c', k', l', b'⟩ = true := by
      cases h : okO ⟨c', k', l', b'⟩ with
      | true => rfl
      | false => rw [chk_not h] at h2; cases h2
    have e1 : encG ⟨c, k, l, b⟩ = encO ⟨c, k, l, b⟩ := by simp [encG, g1]
    have e2 : encG ⟨c', k', l', b'⟩ = encO ⟨c', k', l', b'⟩ := by simp [encG, g2]
    rw [e1, e2]
    exact enc_inj g1 g2
  have S0 := Lib.hid (Sm.start w (c, k, .slice a1 l.length c1, .slice a2 b.length c2) (c', k', .slice a3 l'.length c3, .slice a4 b'.length c4))
  clear hb0 hb1 hl0 hl1 sa sb
  generalize encG ⟨c, k, l, b⟩ = xs at *
  generalize encG ⟨c', k', l', b'⟩ = ys at *
  generalize chk ⟨c, k, l, b⟩ = ta at *
  generalize chk ⟨c', k', l', b'⟩ = tb at *
  generalize sameO ⟨c, k, l, b⟩ ⟨c', k', l', b'⟩ = n at *
  obtain ⟨⟨⟨x0, x1, x2, x3⟩, _, _⟩, ⟨⟨y0, y1, y2, y3⟩, _, _⟩, _⟩ := S0.out
  simp only at x0 x1 x2 x3 y0 y1 y2 y3
  go_enter Try.func5, Try.ntmps5
  go_wp2_with fail
  refine (HLA.out _ S0).mono ?_
  rintro e w1 ⟨rfl, hb1⟩
  have S1 := Lib.hid (S0.out.kept hb1)
  clear hb1 x0 x1 x2 x3 y0 y1 y2 y3
  obtain ⟨⟨⟨x0, x1, x2, x3⟩, _, _⟩, ⟨⟨y0, y1, y2, y3⟩, _, _⟩, _⟩ := S1.out
  simp only at x0 x1 x2 x3 y0 y1 y2 y3
  go_wp2_with fail
  refine (HLB.out _ S1).mono ?_
  rintro e w2 ⟨rfl, hb2⟩
  have S2 := Lib.hid (S1.out.kept hb2)
  clear hb2 x0 x1 x2 x3 y0 y1 y2 y3
  obtain ⟨⟨⟨x0, x1, x2, x3⟩, _, _⟩, ⟨⟨y0, y1, y2, y3⟩, _, _⟩, _⟩ := S2.out
  simp only at x0 x1 x2 x3 y0 y1 y2 y3
  go_wp2_with fail
  refine (HAB.out _ S2).mono ?_
  rintro e w3 ⟨rfl, hb3⟩
  have S3 := Lib.hid (S2.out.kept hb3)
  clear hb3 x0 x1 x2 x3 y0 y1 y2 y3
  obtain ⟨⟨⟨x0, x1, x2, x3⟩, _, _⟩, ⟨⟨y0, y1, y2, y3⟩, _, _⟩, _⟩ := S3.out
  simp only at x0 x1 x2 x3 y0 y1 y2 y3
  go_wp2_with fail
  refine (HCP.out _ S3).mono ?_
  rintro e w4 ⟨wv, bv, rfl, ow4, ob4, hb4⟩
  have S4 := Lib.hid (S3.out.kept hb4)
  have L3 := Lib.hid S3.out.2.1.2.2
  obtain ⟨a5, c5, rfl, _⟩ := own_room ow4
  obtain ⟨a6, c6, rfl, _⟩ := own_room ob4
  simp only at *
  have A4 : Hid (Below w4.heap.size w4 (w4.alloc (.cells #[.int .i64 c, .int .i64 k, .slice a5 l.length c5, .slice a6 b.length c6] 25))) := (Below.refl _ _).alloc (Nat.le_refl _) _
  have C4 := Lib.hid (box_new w4 (.int .i64 c) (.int .i64 k) (.slice a5 l.length c5) (.slice a6 b.length c6))
  have T4 := Lib.hid (S4.out.kept A4.out)
  have LW := Lib.hid (fun g hg => ow4.lt g hg)
  have LB := Lib.hid (fun g hg => ob4.lt g hg)
  have APW := Lib.hid (own_apart ow4 ob4)
  have OW4 := Lib.hid (own_kept ow4 A4.out)
  have OB4 := Lib.hid (own_kept ob4 A4.out)
  have P4 : Hid (ObjAt (w4.alloc (.cells #[.int .i64 c, .int .i64 k, .slice a5 l.length c5, .slice a6 b.length c6] 25)) (.agg #[.int .i64 c, .int .i64 k, .slice a5 l.length c5, .slice a6 b.length c6]) ⟨c, k, l, b⟩) := ⟨_, _, rfl, RowI.own OW4.out HIA.out.1, RowB.own OB4.out HIA.out.2.2.2.1, HIA.out.2.1, HIA.out.2.2.1⟩
  have Z4 := Lib.hid hb4.size
  clear hb4 ow4 ob4 x0 x1 x2 x3 y0 y1 y2 y3
  obtain ⟨⟨⟨x0, x1, x2, x3⟩, _, _⟩, ⟨⟨y0, y1, y2, y3⟩, _, _⟩, _⟩ := T4.out
  obtain ⟨⟨z0, z1, z2, z3⟩, _, _⟩ := C4.out
  simp only at x0 x1 x2 x3 y0 y1 y2 y3
  go_wp2_with fail
  refine (HRAB.out _ T4).mono ?_
  rintro e w5 ⟨rfl, hb5⟩
  have S5 := Lib.hid (T4.out.kept hb5)
  have C5 := Lib.hid (C4.out.next hb5)
  have OW5 := Lib.hid (own_kept OW4.out hb5)
  have OB5 := Lib.hid (own_kept OB4.out hb5)
  have P5 := Lib.hid (P4.out.kept hb5)
  clear hb5 x0 x1 x2 x3 y0 y1 y2 y3 z0 z1 z2 z3
  obtain ⟨⟨⟨x0, x1, x2, x3⟩, _, _⟩, ⟨⟨y0, y1, y2, y3⟩, _, _⟩, _⟩ := S5.out
  obtain ⟨⟨z0, z1, z2, z3⟩, _, _⟩ := C5.out
  simp only at x0 x1 x2 x3 y0 y1 y2 y3
  go_wp2_with fail
  refine (HRCA.out _ _ S5 P5.out).mono ?_
  rintro e w6 ⟨rfl, hb6⟩
  have S6 := Lib.hid (S5.out.kept hb6)
  have C6 := Lib.hid (C5.out.next hb6)
  have OW6 := Lib.hid (own_kept OW5.out hb6)
  have OB6 := Lib.hid (own_kept OB5.out hb6)
  clear hb6 x0 x1 x2 x3 y0 y1 y2 y3 z0 z1 z2 z3
  obtain ⟨⟨⟨x0, x1, x2, x3⟩, _, _⟩, ⟨⟨y0, y1, y2, y3⟩, _, _⟩, _⟩ := S6.out
  obtain ⟨⟨z0, z1, z2, z3⟩, _, _⟩ := C6.out
  simp only at x0 x1 x2 x3 y0 y1 y2 y3
  go_wp2_with fail
  refine (HBA.out _ S6).mono ?_
  rintro e w7 ⟨rfl, hb7⟩
  have S7 := Lib.hid (S6.out.kept hb7)
  have C7 := Lib.hid (C6.out.next hb7)
  have OW7 := Lib.hid (own_kept OW6.out hb7)
  have OB7 := Lib.hid (own_kept OB6.out hb7)
  clear hb7 x0 x1 x2 x3 y0 y1 y2 y3 z0 z1 z2 z3
  obtain ⟨⟨⟨x0, x1, x2, x3⟩, _, _⟩, ⟨⟨y0, y1, y2, y3⟩, _, _⟩, _⟩ := S7.out
  obtain ⟨⟨z0, z1, z2, z3⟩, _, _⟩ := C7.out
  simp only at x0 x1 x2 x3 y0 y1 y2 y3
  go_wp2_with fail
  refine (HAA.out _ S7).mono ?_
  rintro e w8 ⟨rfl, hb8⟩
  have S8 := Lib.hid (S7.out.kept hb8)
  have C8 := Lib.hid (C7.out.next hb8)
  have OW8 := Lib.hid (own_kept OW7.out hb8)
  have OB8 := Lib.hid (own_kept OB7.out hb8)
  clear hb8 x0 x1 x2 x3 y0 y1 y2 y3 z0 z1 z2 z3
  obtain ⟨⟨⟨x0, x1, x2, x3⟩, _, _⟩, ⟨⟨y0, y1, y2, y3⟩, _, _⟩, _⟩ := S8.out
  obtain ⟨⟨z0, z1, z2, z3⟩, _, _⟩ := C8.out
  simp only at x0 x1 x2 x3 y0 y1 y2 y3
  go_wp2_with fail
  refine (HEA.out _ S8).mono ?_
  rintro e w9 ⟨a9, c9, rfl, ox9, hb9⟩
  have S9 := Lib.hid (S8.out.kept hb9)
  have C9 := Lib.hid (C8.out.next hb9)
  have OW9 := Lib.hid (own_kept OW8.out hb9)
  have OB9 := Lib.hid (own_kept OB8.out hb9)
  have OX9 := Lib.hid ox9
  have LX := Lib.hid (fun g hg => ox9.lt g hg)
  have L8 := Lib.hid C8.out.2.2
  clear hb9 ox9 x0 x1 x2 x3 y0 y1 y2 y3 z0 z1 z2 z3
  obtain ⟨⟨⟨x0, x1, x2, x3⟩, _, _⟩, ⟨⟨y0, y1, y2, y3⟩, _, _⟩, _⟩ := S9.out
  obtain ⟨⟨z0, z1, z2, z3⟩, _, _⟩ := C9.out
  simp only at x0 x1 x2 x3 y0 y1 y2 y3
  go_wp2_with fail
  refine (spoil_any (fun g => (Value.slice a6 b.length c6).ownBlock = some g) _ _ b w9 OB9.out (by have := HIA.out.2.2.2.2.2; omega) (fun _ h => h)).mono ?_
  rintro e w10 ⟨rfl, ho10⟩
  have S10 := Lib.hid (S9.out.only ho10 (fun g hg => by have := (LB.out g hg).1; have := L3.out; omega))
  have C10 := Lib.hid (C9.out.only ho10 (fun e => by have := (LB.out _ e).2; omega))
  have OW10 := Lib.hid (own_only OW9.out ho10 (fun g hg => APW.out g hg))
  have X10 := Lib.hid (own_only OX9.out ho10 (fun g hg e => by have := (LX.out g hg).1; have := (LB.out g e).2; have := L8.out; omega))
  have WR10 := Lib.hid (Wr.own OW10.out)
  have GA := Lib.hid (fun h => own_some OW10.out h)
  clear ho10 x0 x1 x2 x3 y0 y1 y2 y3 z0 z1 z2 z3
  go_wp2
  go_loopw [9] (fun i wr => ∃ j : Nat, j ≤ l.length ∧ i = .int .i64 j ∧ Hid (Only (fun g => (Value.slice a5 l.length c5).ownBlock = some g) w10 wr) ∧ Hid (Wr (.slice a5 l.length c5) l.length wr)) (fun i _ => l.length - (intOf i).toNat)
  case atStart => exact ⟨0, Nat.zero_le _, rfl, Only.refl _ _, WR10⟩
  case round =>
    obtain ⟨j, hj, rfl, hon, hwr⟩ := hrel
    have CR := Lib.hid (C10.out.only hon.out (fun e => by have := (LW.out _ e).2; omega))
    obtain ⟨⟨z0, z1, z2, z3⟩, _, _⟩ := CR.out
    by_cases hlt : j < l.length
    · have hlt' : (j : Int) < l.length := by omega
      obtain ⟨g, hg⟩ := GA.out (by omega)
      subst hg
      obtain ⟨zz, hz⟩ := (hwr.out g rfl).1 j hlt
      have hfz := (hwr.out g rfl).2 j
      go_wp2
      go_roundw
      case rel => exact ⟨j + 1, by omega, by go_num, Lib.hid (hon.out.setCell ⟨g, j, none⟩ rfl _), Lib.hid hwr.out.set⟩
      case measure => simp [intOf]; omega
    · have S11 := Lib.hid (S10.out.only hon.out (fun g hg => by have := (LW.out g hg).1; have := L3.out; omega))
      have X11 := Lib.hid (own_only X10.out hon.out (fun g hg e => by have := (LX.out g hg).1; have := (LW.out g e).2; have := L8.out; omega))
      clear hon hwr
      have hlt' : ¬ (j : Int) < l.length := by omega
      obtain ⟨⟨⟨x0, x1, x2, x3⟩, _, _⟩, ⟨⟨y0, y1, y2, y3⟩, _, _⟩, _⟩ := S11.out
      simp only at x0 x1 x2 x3 y0 y1 y2 y3
      go_wp2_with fail
      refine (HEB.out _ S11).mono ?_
      rintro e w12 ⟨a12, c12, rfl, oy12, hb12⟩
      have S12 := Lib.hid (S11.out.kept hb12)
      have X12 := Lib.hid (own_kept X11.out hb12)
      have Y12 := Lib.hid oy12
      clear hb12 oy12 x0 x1 x2 x3 y0 y1 y2 y3 z0 z1 z2 z3
      obtain ⟨⟨⟨x0, x1, x2, x3⟩, _, _⟩, ⟨⟨y0, y1, y2, y3⟩, _, _⟩, _⟩ := S12.out
      simp only at x0 x1 x2 x3 y0 y1 y2 y3
      go_wp2_with fail
      refine (HEA.out _ S12).mono ?_
      rintro e w13 ⟨a13, c13, rfl, oz13, hb13⟩
      have S13 := Lib.hid (S12.out.kept hb13)
      have X13 := Lib.hid (own_bts (own_kept X12.out hb13))
      have Y13 := Lib.hid (own_bts (own_kept Y12.out hb13))
      have Z13 := Lib.hid (own_bts oz13)
      clear hb13 oz13 x0 x1 x2 x3 y0 y1 y2 y3
      go_wp2_with fail
      refine (same_eq _ _ xs _ X13.out Z13.out).mono ?_
      rintro e w14 ⟨rfl, rfl⟩
      by_cases hta : ta = 0
      · subst hta
        by_cases htb : tb = 0
        · subst htb
          have HSY := Lib.hid (HSX.out rfl rfl)
          go_wp2_with fail
          refine (same_any _ _ xs ys _ X13.out Y13.out HYA.out HYB.out).mono ?_
          rw [HSY.out]
          rintro e w15 ⟨rfl, rfl⟩
          go_wp2_with fail
          refine (HN.out _).mono ?_
          rintro e w16 ⟨rfl, hb16⟩
          have B16 := Lib.hid (S13.out.2.2.trans (hb16.mono S13.out.2.2.size))
          clear hb16
          go_wp2
          go_ret
          exact ⟨rfl, B16.out⟩
        · have qb : (tb != 0) = true := by simp [htb]
          go_wp2_with fail
          refine (HN.out _).mono ?_
          rintro e w16 ⟨rfl, hb16⟩
          have B16 := Lib.hid (S13.out.2.2.trans (hb16.mono S13.out.2.2.size))
          clear hb16
          go_wp2
          go_ret
          exact ⟨rfl, B16.out⟩
      · have qa : (ta != 0) = true := by simp [hta]
        go_wp2_with fail
        refine (HN.out _).mono ?_
        rintro e w16 ⟨rfl, hb16⟩
        have B16 := Lib.hid (S13.out.2.2.trans (hb16.mono S13.out.2.2.size))
        clear hb16
        go_wp2
        go_ret
        exact ⟨rfl, B16.out⟩

set_option maxHeartbeats 2000000 in
theorem same_long0 (w : World) (c k : Int) (l b : List Int) (a1 a2 : Option Addr) (c1 c2 : Nat) (c' k' : Int) (l' b' : List Int) (a3 a4 : Option Addr) (c3 c4 : Nat) (hb0 : ObjAt w (.agg #[.int .i64 c, .int .i64 k, .slice a1 l.length c1, .slice a2 b.length c2]) ⟨c, k, l, b⟩) (hl0 : longO ⟨c, k, l, b⟩ = true) :
    Calls Try.prog 5 #[.agg #[.int .i64 c, .int .i64 k, .slice a1 l.length c1, .slice a2 b.length c2], .agg #[.int .i64 c', .int .i64 k', .slice a3 l'.length c3, .slice a4 b'.length c4]] w fun e w' => e = .returned (.bool true) ∧ Below w.heap.size w w' := by
  have HN : Hid (∀ w', Calls Try.prog 12 #[] w' fun e w'' => e = .returned (.bool true) ∧ Below w'.heap.size w' w'') := known_true
  have HLA : Hid (∀ w', Hid (Sm w (c, k, .slice a1 l.length c1, .slice a2 b.length c2) (c', k', .slice a3 l'.length c3, .slice a4 b'.length c4) w') → Calls Try.prog 11 #[.agg #[.int .i64 c, .int .i64 k, .slice a1 l.length c1, .slice a2 b.length c2]] w' fun e w'' => e = .returned (.bool true) ∧ Below w'.heap.size w' w'') := fun w' h => (long_any _ _ w' (hb0.kept h.out.2.2)).mono fun _ _ h => by rw [hl0] at h; exact h
  have S0 := Lib.hid (Sm.start w (c, k, .slice a1 l.length c1, .slice a2 b.length c2) (c', k', .slice a3 l'.length c3, .slice a4 b'.length c4))
  clear hb0 hl0
  obtain ⟨⟨⟨x0, x1, x2, x3⟩, _, _⟩, ⟨⟨y0, y1, y2, y3⟩, _, _⟩, _⟩ := S0.out
  simp only at x0 x1 x2 x3 y0 y1 y2 y3
  go_enter Try.func5, Try.ntmps5
  go_wp2_with fail
  refine (HLA.out _ S0).mono ?_
  rintro e w1 ⟨rfl, hb1⟩
  have S1 := Lib.hid (S0.out.kept hb1)
  clear hb1 x0 x1 x2 x3 y0 y1 y2 y3
  obtain ⟨⟨⟨x0, x1, x2, x3⟩, _, _⟩, ⟨⟨y0, y1, y2, y3⟩, _, _⟩, _⟩ := S1.out
  simp only at x0 x1 x2 x3 y0 y1 y2 y3
  go_wp2_with fail
  refine (HN.out _).mono ?_
  rintro e w9 ⟨rfl, hb9⟩
  have B9 := Lib.hid (S1.out.2.2.trans (hb9.mono S1.out.2.2.size))
  clear hb9
  go_wp2
  go_ret
  exact ⟨rfl, B9.out⟩

set_option maxHeartbeats 2000000 in
theorem same_long1 (w : World) (c k : Int) (l b : List Int) (a1 a2 : Option Addr) (c1 c2 : Nat) (c' k' : Int) (l' b' : List Int) (a3 a4 : Option Addr) (c3 c4 : Nat) (hb0 : ObjAt w (.agg #[.int .i64 c, .int .i64 k, .slice a1 l.length c1, .slice a2 b.length c2]) ⟨c, k, l, b⟩) (hb1 : ObjAt w (.agg #[.int .i64 c', .int .i64 k', .slice a3 l'.length c3, .slice a4 b'.length c4]) ⟨c', k', l', b'⟩) (hl0 : longO ⟨c, k, l, b⟩ = false) (hl1 : longO ⟨c', k', l', b'⟩ = true) :
    Calls Try.prog 5 #[.agg #[.int .i64 c, .int .i64 k, .slice a1 l.length c1, .slice a2 b.length c2], .agg #[.int .i64 c', .int .i64 k', .slice a3 l'.length c3, .slice a4 b'.length c4]] w fun e w' => e = .returned (.bool true) ∧ Below w.heap.size w w' := by
  have HN : Hid (∀ w', Calls Try.prog 12 #[] w' fun e w'' => e = .returned (.bool true) ∧ Below w'.heap.size w' w'') := known_true
  have HLA : Hid (∀ w', Hid (Sm w (c, k, .slice a1 l.length c1, .slice a2 b.length c2) (c', k', .slice a3 l'.length c3, .slice a4 b'.length c4) w') → Calls Try.prog 11 #[.agg #[.int .i64 c, .int .i64 k, .slice a1 l.length c1, .slice a2 b.length c2]] w' fun e w'' => e = .returned (.bool false) ∧ Below w'.heap.size w' w'') := fun w' h => (long_any _ _ w' (hb0.kept h.out.2.2)).mono fun _ _ h => by rw [hl0] at h; exact h
  have HLB : Hid (∀ w', Hid (Sm w (c, k, .slice a1 l.length c1, .slice a2 b.length c2) (c', k', .slice a3 l'.length c3, .slice a4 b'.length c4) w') → Calls Try.prog 11 #[.agg #[.int .i64 c', .int .i64 k', .slice a3 l'.length c3, .slice a4 b'.length c4]] w' fun e w'' => e = .returned (.bool true) ∧ Below w'.heap.size w' w'') := fun w' h => (long_any _ _ w' (hb1.kept h.out.2.2)).mono fun _ _ h => by rw [hl1] at h; exact h
  have S0 := Lib.hid (Sm.start w (c, k, .slice a1 l.length c1, .slice a2 b.length c2) (c', k', .slice a3 l'.length c3, .slice a4 b'.length c4))
  clear hb0 hl0 hb1 hl1
  obtain ⟨⟨⟨x0, x1, x2, x3⟩, _, _⟩, ⟨⟨y0, y1, y2, y3⟩, _, _⟩, _⟩ := S0.out
  simp only at x0 x1 x2 x3 y0 y1 y2 y3
  go_enter Try.func5, Try.ntmps5
  go_wp2_with fail
  refine (HLA.out _ S0).mono ?_
  rintro e w1 ⟨rfl, hb1⟩
  have S1 := Lib.hid (S0.out.kept hb1)
  clear hb1 x0 x1 x2 x3 y0 y1 y2 y3
  obtain ⟨⟨⟨x0, x1, x2, x3⟩, _, _⟩, ⟨⟨y0, y1, y2, y3⟩, _, _⟩, _⟩ := S1.out
  simp only at x0 x1 x2 x3 y0 y1 y2 y3
  go_wp2_with fail
  refine (HLB.out _ S1).mono ?_
  rintro e w2 ⟨rfl, hb2⟩
  have S2 := Lib.hid (S1.out.kept hb2)
  clear hb2 x0 x1 x2 x3 y0 y1 y2 y3
  go_wp2_with fail
  refine (HN.out _).mono ?_
  rintro e w9 ⟨rfl, hb9⟩
  have B9 := Lib.hid (S2.out.2.2.trans (hb9.mono S2.out.2.2.size))
  clear hb9
  go_wp2
  go_ret
  exact ⟨rfl, B9.out⟩

theorem wideSame_walk (w : World) (v0 : Value) (x0 : Ob) (hb0 : ObjAt w v0 x0) (_ : x0.w.length ≤ maxLen ∧ x0.b.length ≤ maxLen) (v1 : Value) (x1 : Ob) (hb1 : ObjAt w v1 x1) (_ : x1.w.length ≤ maxLen ∧ x1.b.length ≤ maxLen) :
    Calls Try.prog 5 #[v0, v1] w fun e w' => e = .returned (.bool true) ∧ Below w.heap.size w w' := by
  have HO := Lib.hid hb0
  have HP := Lib.hid hb1
  obtain ⟨wv, bv, rfl, ⟨_, _, a1, c1, rfl, _⟩, ⟨_, _, a2, c2, rfl, _⟩, _, _⟩ := hb0
  obtain ⟨wv, bv, rfl, ⟨_, _, a3, c3, rfl, _⟩, ⟨_, _, a4, c4, rfl, _⟩, _, _⟩ := hb1
  obtain ⟨c, k, l, b⟩ := x0
  obtain ⟨c', k', l', b'⟩ := x1
  simp only at *
  cases hl0 : longO ⟨c, k, l, b⟩ with
  | true => exact same_long0 w c k l b a1 a2 c1 c2 c' k' l' b' a3 a4 c3 c4 HO.out hl0
  | false =>
    cases hl1 : longO ⟨c', k', l', b'⟩ with
    | true => exact same_long1 w c k l b a1 a2 c1 c2 c' k' l' b' a3 a4 c3 c4 HO.out HP.out hl0 hl1
    | false => exact same_main w c k l b a1 a2 c1 c2 c' k' l' b' a3 a4 c3 c4 HO.out HP.out hl0 hl1
end Go.Proofs.Ytbkojjbigilclaa
