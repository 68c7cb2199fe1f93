/- The walk of the law WideEncode: it returns true for every object. -/
import Derived.Test.YtbkojjbigilclaaLawC
namespace Go.Proofs.Ytbkojjbigilclaa
open Go.ChangeShapes Go.WideShapes Go.ChangeAt Go.RowKit
set_option maxRecDepth 1000000

theorem encO_byL {o : Ob} (h : ByL o.b) : ByL (encO o) := by
  unfold encO
  refine (byL_allB _).app ?_
  split
  · exact byL_allB _
  · exact h
set_option maxHeartbeats 2000000 in
theorem wideEncode_walk (w : World) (v0 : Value) (x0 : Ob) (hb0 : ObjAt w v0 x0) (_ : x0.w.length ≤ maxLen ∧ x0.b.length ≤ maxLen) :
    Calls Try.prog 7 #[v0] w fun e w' => e = .returned (.bool true) ∧ Below w.heap.size w w' := by
  have HO := Lib.hid hb0
  have HL := Lib.hid (fun (w' : World) (h : Below w.heap.size w w') => long_any v0 x0 w' (hb0.kept h))
  obtain ⟨wv, bv, rfl, ⟨_, _, a1, c1, rfl, _⟩, ⟨_, hy, a2, c2, rfl, _⟩, _, _⟩ := hb0
  obtain ⟨c, k, l, b⟩ := x0
  simp only at *
  have HA := Lib.hid (Seen.start w c k (.slice a1 l.length c1) (.slice a2 b.length c2))
  cases hl : longO ⟨c, k, l, b⟩ with
  | true =>
    rw [hl] at HL
    clear hl
    go_enter Try.func7, Try.ntmps7
    go_wp2_with fail
    refine (HL.out _ HA.out.2.2.2.2.out).mono ?_
    rintro e w1 ⟨rfl, hb1⟩
    have B1 := (HA.out.kept hb1).2.2.2.2
    clear hb1
    go_wp2_with fail
    refine (known_true _).mono ?_
    rintro e w2 ⟨rfl, hb2⟩
    have B2 := Lib.hid (B1.out.trans (hb2.mono B1.out.size))
    clear hb2
    go_wp2
    go_ret
    exact ⟨rfl, B2.out⟩
  | false =>
    rw [hl] at HL
    have hs := short_of' hl
    have HN : Hid (∀ w', Calls Try.prog 12 #[] w' fun e w'' => e = .returned (.bool true) ∧ Below w'.heap.size w' w'') := known_true
    clear hl
    cases hok : okO ⟨c, k, l, b⟩ with
    | true =>
      have HE : Hid (∀ w', Below w.heap.size w w' → Calls Try.prog 13 #[.agg #[.int .i64 c, .int .i64 k, .slice a1 l.length c1, .slice a2 b.length c2]] w' (EncYes (encO ⟨c, k, l, b⟩) w')) := fun w' h => encode_yes _ _ w' (HO.out.kept h) hok
      have HR : Hid (∀ w', Below w.heap.size w w' → Calls Try.prog 14 #[.agg #[.int .i64 c, .int .i64 k, .slice a1 l.length c1, .slice a2 b.length c2]] w' (EncYes (encO ⟨c, k, l, b⟩) w')) := fun w' h => refencode_yes _ _ w' (HO.out.kept h) hok
      clear hs hok hy
      generalize encO ⟨c, k, l, b⟩ = xs at HE HR
      go_enter Try.func7, Try.ntmps7
      go_wp2_with fail
      refine (HL.out _ HA.out.2.2.2.2.out).mono ?_
      rintro e w1 ⟨rfl, hb1⟩
      obtain ⟨b0, b1, b2, b3, b4⟩ := HA.out.kept hb1
      clear hb1
      go_wp2_with fail
      refine (HE.out _ b4.out).mono ?_
      rintro e w2 ⟨v2, rfl, ho2, hb2⟩
      have R2 := Lib.hid (own_bts ho2)
      obtain ⟨d0, d1, d2, d3, d4⟩ := Seen.kept ⟨b0, b1, b2, b3, b4⟩ hb2
      clear b0 b1 b2 b3 b4 hb2 ho2
      go_wp2_with fail
      refine (HR.out _ d4.out).mono ?_
      rintro e w3 ⟨v3, rfl, ho3, hb3⟩
      have R3 := Lib.hid (own_bts ho3)
      have Q2 := Lib.hid (R2.out.kept hb3)
      have B3 := Lib.hid (d4.out.trans (hb3.mono d4.out.size))
      clear d0 d1 d2 d3 d4 hb3 ho3
      go_wp2_with fail
      refine (same_eq _ _ _ _ Q2.out R3.out).mono ?_
      rintro e w4 ⟨rfl, rfl⟩
      go_wp2_with fail
      refine (HN.out _).mono ?_
      rintro e w5 ⟨rfl, hb5⟩
      have B5 := Lib.hid (B3.out.trans (hb5.mono B3.out.size))
      clear hb5
      go_wp2
      go_ret
      exact ⟨rfl, B5.out⟩
    | false =>
      have HE : Hid (∀ w', Below w.heap.size w w' → Calls Try.prog 13 #[.agg #[.int .i64 c, .int .i64 k, .slice a1 l.length c1, .slice a2 b.length c2]] w' (EncNo w')) := fun w' h => encode_no _ _ w' (HO.out.kept h) hs hok
      have HR : Hid (∀ w', Below w.heap.size w w' → Calls Try.prog 14 #[.agg #[.int .i64 c, .int .i64 k, .slice a1 l.length c1, .slice a2 b.length c2]] w' (EncNo w')) := fun w' h => refencode_no _ _ w' (HO.out.kept h) hs hok
      clear hs hok hy
      go_enter Try.func7, Try.ntmps7
      go_wp2_with fail
      refine (HL.out _ HA.out.2.2.2.2.out).mono ?_
      rintro e w1 ⟨rfl, hb1⟩
      obtain ⟨b0, b1, b2, b3, b4⟩ := HA.out.kept hb1
      clear hb1
      go_wp2_with fail
      refine (HE.out _ b4.out).mono ?_
      rintro e w2 ⟨rfl, hb2⟩
      obtain ⟨d0, d1, d2, d3, d4⟩ := Seen.kept ⟨b0, b1, b2, b3, b4⟩ hb2
      clear b0 b1 b2 b3 b4 hb2
      go_wp2_with fail
      refine (HR.out _ d4.out).mono ?_
      rintro e w3 ⟨rfl, hb3⟩
      have B3 := Lib.hid (d4.out.trans (hb3.mono d4.out.size))
      clear d0 d1 d2 d3 d4 hb3
      go_wp2_with fail
      refine (same_eq _ _ [] _ (rowB_nil _).1 (rowB_nil _).1).mono ?_
      rintro e w4 ⟨rfl, rfl⟩
      go_wp2_with fail
      refine (HN.out _).mono ?_
      rintro e w5 ⟨rfl, hb5⟩
      have B5 := Lib.hid (B3.out.trans (hb5.mono B3.out.size))
      clear hb5
      go_wp2
      go_ret
      exact ⟨rfl, B5.out⟩
end Go.Proofs.Ytbkojjbigilclaa
