/- Parts of the walk of the law WideBack. -/
import Derived.Test.YtbkojjbigilclaaBka
namespace Go.Proofs.Ytbkojjbigilclaa
open Go.ChangeShapes Go.WideShapes Go.ChangeAt Go.RowKit
set_option maxRecDepth 1000000


set_option maxHeartbeats 4000000 in
theorem back_in (w : World) (c : Int) (l b : List Int) (a1 a2 : Option Addr) (c1 c2 : Nat) (hb0 : ObjAt w (.agg #[.int .i64 c, .int .i64 1, .slice a1 l.length c1, .slice a2 b.length c2]) ⟨c, 1, l, b⟩) (hl : longO ⟨c, 1, l, b⟩ = false) (hok : okO ⟨c, 1, l, b⟩ = true) (x1 : List Int) (a5 : Option Addr) (c5 : Nat) (X1 : Hid (RowB w (.slice a5 x1.length c5) x1)) (h6 : ¬ 6000 < x1.length) (z m : Int) (hm : 0 ≤ m ∧ m ≤ 255) (j : Nat) (hj : z = j) (hlt : j < l.length) :
    Calls Try.prog 4 #[.agg #[.int .i64 c, .int .i64 1, .slice a1 l.length c1, .slice a2 b.length c2], .slice a5 x1.length c5, .int .i64 z, .int .u8 m] w fun e w' => e = .returned (.bool true) ∧ Below w.heap.size w w' := by
  subst hj
  have HN : Hid (∀ w', Calls Try.prog 12 #[] w' fun e w'' => e = .returned (.bool true) ∧ Below w'.heap.size w' w'') := known_true
  have HL : Hid (∀ w', Below w.heap.size w w' → Calls Try.prog 11 #[.agg #[.int .i64 c, .int .i64 1, .slice a1 l.length c1, .slice a2 b.length c2]] w' fun e w'' => e = .returned (.bool false) ∧ Below w'.heap.size w' w'') := fun w' h => (long_any _ _ w' (hb0.kept h)).mono fun _ _ h => by rw [hl] at h; exact h
  have HE := Lib.hid (fun (w' : World) (h : Below w.heap.size w w') => encode_yes _ _ w' (hb0.kept h) hok)
  have HA := Lib.hid (Seen.start w c 1 (.slice a1 l.length c1) (.slice a2 b.length c2))
  have HD := Lib.hid (dec_enc hok)
  have HEL := Lib.hid (enc_le hok)
  have HS := Lib.hid (short_ok hok)
  have HO := Lib.hid hb0
  have h6' : ¬ (6000 : Int) < x1.length := by omega
  obtain ⟨hI, ⟨_, hyb, _⟩⟩ := hb0.rows
  have HY := Lib.hid (encO_byL (o := ⟨c, 1, l, b⟩) hyb)
  have HI := Lib.hid hI.1
  clear hb0 hI hyb hok hl
  generalize encO ⟨c, 1, l, b⟩ = xs at *
  obtain ⟨n, hn⟩ : ∃ n, xs.length = n := ⟨_, rfl⟩
  obtain ⟨hn1, hn2⟩ : 12 ≤ n ∧ n ≤ 4012 := by rw [← hn]; exact HEL.out
  have HLN := Lib.hid hn
  clear hn
  obtain ⟨r, hr, hq⟩ := cut_at (j : Int) n (by omega) (by omega)
  have HQ := Lib.hid hq
  have HQ2 := Lib.hid hq
  have hn3 : ¬ (n : Int) < 12 := by omega
  have hm' := hm
  clear hm HQ hq HEL
  have hq := HQ2.out
  have HW : Hid (∀ (w' : World) {v : Value}, RowB w' v xs → Calls Try.prog 26 #[v, .int .i64 j] w' (WordPost (l.getD j 0) 0 w')) := fun w' v h => by
    have := word_at v xs j w' h (by rw [HLN.out]; omega) HD.out.1 (by rw [HD.out.2]) (by rw [HD.out.2]; exact hlt)
    rw [HD.out.2] at this; exact this
  have hlt' : (j : Int) < l.length := by omega
  go_enter Try.func4, Try.ntmps4
  go_wp2_with fail
  refine (HL.out _ HA.out.2.2.2.2.out).mono ?_
  rintro e w1 ⟨rfl, hb1⟩
  obtain ⟨b0, b1, b2, b3, b4⟩ := HA.out.kept hb1
  clear hb1
  go_wp2_with fail
  refine (HE.out _ b4.out).mono ?_
  rintro e w2 ⟨v2, rfl, ho2, hb2⟩
  rw [HLN.out] at ho2
  have OW2 := Lib.hid ho2
  obtain ⟨g2, cp2, rfl, hcp2⟩ := own_addr ho2 (by omega)
  have R2 : Hid (RowB w2 (.slice (some ⟨g2, 0, none⟩) n cp2) xs) := RowB.own (by rw [HLN.out]; exact OW2.out) HY.out
  have S2 := Lib.hid (Seen.kept ⟨b0, b1, b2, b3, b4⟩ hb2)
  clear b0 b1 b2 b3 b4 hb2 ho2
  go_upto_if 38 with fail
  go_cut [] from 24 to 159 (fun wx => Hid (Below w.heap.size w wx))
  case rest =>
    have BC : Hid (Below w.heap.size w wc) := hcut
    clear hcut
    cases hd : decB x1 with
    | true =>
      have HD : Hid (∀ w', Below w.heap.size w w' → Calls Try.prog 15 #[.slice a5 x1.length c5] w' (DecYes (rdO x1) w')) := fun w' h => decode_yes _ x1 w' (X1.out.kept h) (by omega) hd
      have HE : Hid (∀ w' v, ObjAt w' v (rdO x1) → Calls Try.prog 13 #[v] w' (EncYes x1 w')) := fun w' v h => by
        have := encode_yes v _ w' h (dec_parts hd).2.1
        rw [enc_dec hd X1.out.2.1] at this
        exact this
      clear hd
      generalize rdO x1 = oo at *
      obtain ⟨x, k', l', b'⟩ := oo
      go_wp2_with fail
      refine (HD.out _ BC.out).mono ?_
      rintro e w20 ⟨v20, rfl, ho20, hb20⟩
      have O20 := Lib.hid ho20
      obtain ⟨wv, bv, rfl, ⟨_, _, a3, c3, rfl, _⟩, ⟨_, _, a4, c4, rfl, _⟩, _, _⟩ := ho20
      simp only at *
      have A20 : Hid (Below w20.heap.size w20 (w20.alloc (.cells #[.int .i64 x, .int .i64 k', .slice a3 l'.length c3, .slice a4 b'.length c4] 25))) := (Below.refl _ _).alloc (Nat.le_refl _) _
      have P20 := Lib.hid (O20.out.kept A20.out)
      have B20 := Lib.hid (BC.out.trans (hb20.mono BC.out.size))
      have B21 := Lib.hid (B20.out.trans (A20.out.mono B20.out.size))
      clear hb20
      go_wp2_with fail
      refine (HE.out _ _ P20.out).mono ?_
      rintro e w22 ⟨v22, rfl, ho22, hb22⟩
      have R22 := Lib.hid (own_bts ho22)
      have B22 := Lib.hid (B21.out.trans (hb22.mono B21.out.size))
      have X22 := Lib.hid (X1.out.kept B22.out).1
      clear hb22 ho22
      go_wp2_with fail
      refine (same_eq _ _ _ _ R22.out X22.out).mono ?_
      rintro e w23 ⟨rfl, rfl⟩
      go_wp2_with fail
      refine (HN.out _).mono ?_
      rintro e w24 ⟨rfl, hb24⟩
      have B24 := Lib.hid (B22.out.trans (hb24.mono B22.out.size))
      clear hb24
      go_wp2
      go_ret
      exact ⟨rfl, B24.out⟩
    | false =>
      have HD : Hid (∀ w', Below w.heap.size w w' → Calls Try.prog 15 #[.slice a5 x1.length c5] w' (DecNo w')) := fun w' h => decode_no _ x1 w' (X1.out.kept h) (by omega) hd
      clear hd
      go_wp2_with fail
      refine (HD.out _ BC.out).mono ?_
      rintro e w20 ⟨rfl, hb20⟩
      have A20 : Hid (Below w20.heap.size w20 (w20.alloc (.cells #[.int .i64 0, .int .i64 0, .slice none 0 0, .slice none 0 0] 25))) := (Below.refl _ _).alloc (Nat.le_refl _) _
      have B20 := Lib.hid (BC.out.trans (hb20.mono BC.out.size))
      have B21 := Lib.hid (B20.out.trans (A20.out.mono B20.out.size))
      clear hb20
      go_wp2_with fail
      refine (HN.out _).mono ?_
      rintro e w24 ⟨rfl, hb24⟩
      have B24 := Lib.hid (B21.out.trans (hb24.mono B21.out.size))
      clear hb24
      go_wp2
      go_ret
      exact ⟨rfl, B24.out⟩
  case first =>
    obtain ⟨d0, d1, d2, d3, d4⟩ := S2.out
    go_wp2_with fail
    refine (decode_yes _ xs _ R2.out (by rw [HLN.out]; omega) HD.out.1).mono ?_
    rw [HD.out.2]
    rintro e w3 ⟨v3, rfl, ho3, hb3⟩
    have O3 := Lib.hid ho3
    obtain ⟨wv, bv, rfl, ⟨_, _, a3, c3, rfl, _⟩, ⟨_, _, a4, c4, rfl, _⟩, _, _⟩ := ho3
    simp only at *
    have X3 := Lib.hid (box_new w3 (.int .i64 c) (.int .i64 1) (.slice a3 l.length c3) (.slice a4 b.length c4))
    have A3 : Hid (Below w3.heap.size w3 (w3.alloc (.cells #[.int .i64 c, .int .i64 1, .slice a3 l.length c3, .slice a4 b.length c4] 25))) := (Below.refl _ _).alloc (Nat.le_refl _) _
    have N3 := Lib.hid (hb3.trans (A3.out.mono hb3.size))
    have P3 := Lib.hid (O3.out.kept A3.out)
    have S3 := Lib.hid (S2.out.kept N3.out)
    have Q3 := Lib.hid (HO.out.kept S3.out.2.2.2.2.out)
    clear hb3 d0 d1 d2 d3 d4
    obtain ⟨d0, d1, d2, d3, d4⟩ := S3.out
    obtain ⟨⟨x0', x1', x2', x3'⟩, _, _⟩ := X3.out
    go_wp2_with fail
    refine (same_ref _ _ _ _ _ P3.out Q3.out HS.out HS.out).mono ?_
    rintro e w4 ⟨rfl, hb4⟩
    rw [sameO_self]
    have N4 := Lib.hid (N3.out.trans (hb4.mono N3.out.size))
    have R4 := Lib.hid (R2.out.kept N4.out)
    have T4 : Hid (RowB w4 (.slice (some ⟨g2, 0, none⟩) r cp2) (xs.take r)) := row_take R4.out r (by rw [HLN.out]; omega) (by omega)
    clear hb4 x0' x1' x2' x3' d0 d1 d2 d3 d4
    have hcr : (r : Int) ≤ cp2 := by omega
    go_wp2_with fail
    refine (decode_no _ (xs.take r) _ T4.out (by simp; omega) (dec_cut HD.out.1 r (by rw [HLN.out]; exact hr))).mono ?_
    rintro e w5 ⟨rfl, hb5⟩
    have A5 : Hid (Below w5.heap.size w5 (w5.alloc (.cells #[.int .i64 0, .int .i64 0, .slice none 0 0, .slice none 0 0] 25))) := (Below.refl _ _).alloc (Nat.le_refl _) _
    have M5 := Lib.hid (hb5.trans (A5.out.mono hb5.size))
    have N5 := Lib.hid (N4.out.trans (M5.out.mono N4.out.size))
    have R5 := Lib.hid (R4.out.kept M5.out)
    clear hb5
    go_wp2_with fail
    refine (copy_any _ xs _ R5.out.1 (by rw [HLN.out]; omega)).mono ?_
    rintro e w6 ⟨v6, rfl, ho6, hb6⟩
    have OW6 := Lib.hid ho6
    have N6 := Lib.hid (N5.out.trans (hb6.mono N5.out.size))
    have R6 := Lib.hid (R5.out.kept hb6)
    have Z6 := Lib.hid hb6.size
    clear hb6 ho6
    have A6 : Hid (Below w6.heap.size w6 (w6.alloc (.cells #[.int .u8 m] 5))) := (Below.refl _ _).alloc (Nat.le_refl _) _
    go_wp2_with (at_builtin; refine append_bts rfl _ _ rfl _ v6 xs rfl (OW6.out.alloc _) _ [m] rfl (one_at _ _) ?c1 ?c2 ?_)
    case c1 => rw [HLN.out]; simp; omega
    case c2 => have := Z6.out; simp at this ⊢; omega
    intro v7 w7 ho7 hb7
    have N7 : Hid (Below w2.heap.size w2 w7) := (N6.out.trans (A6.out.mono N6.out.size)).trans (hb7.mono (by have := N5.out.size; simp at this ⊢; omega))
    have R7 := Lib.hid (R2.out.kept N7.out)
    have OW7 := Lib.hid ho7
    clear ho7 hb7
    have Y7 : Hid (RowB w7 v7 (xs ++ [m])) := RowB.own (by simpa using OW7.out) (HY.out.app fun q hq => by simp at hq; subst hq; exact hm')
    go_wp2_with fail
    refine (decode_no _ (xs ++ [m]) _ Y7.out (by simp [HLN.out]; omega) (dec_more HD.out.1 m)).mono ?_
    rintro e w8 ⟨rfl, hb8⟩
    have A8 : Hid (Below w8.heap.size w8 (w8.alloc (.cells #[.int .i64 0, .int .i64 0, .slice none 0 0, .slice none 0 0] 25))) := (Below.refl _ _).alloc (Nat.le_refl _) _
    have M8 := Lib.hid (hb8.trans (A8.out.mono hb8.size))
    have N8 := Lib.hid (N7.out.trans (M8.out.mono N7.out.size))
    have R8 := Lib.hid (R7.out.kept M8.out)
    clear hb8
    go_wp2_with fail
    refine (HW.out _ R8.out).mono ?_
    rintro e w9 ⟨rfl, hb9⟩
    have N9 := Lib.hid (N8.out.trans (hb9.mono N8.out.size))
    clear hb9
    obtain ⟨d0, d1, d2, d3, d4⟩ := S2.out.kept N9.out
    obtain ⟨bb, off, cc, hz, hc⟩ := (HI.out.kept d4.out).at_ hlt
    injection hz with q1 q2 q3
    subst q1
    clear q2 q3
    generalize l.getD j 0 = y at *
    go_wp2_with fail
    go_meet
    case rel => exact d4
end Go.Proofs.Ytbkojjbigilclaa
