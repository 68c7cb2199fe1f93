/- The walk of the law WideWrites: it returns true for every object and every row of bytes. -/
import Derived.Test.YtbkojjbigilclaaWr1
import Derived.Test.YtbkojjbigilclaaWr2
import Derived.Test.YtbkojjbigilclaaWr3
namespace Go.Proofs.Ytbkojjbigilclaa
open Go.ChangeShapes Go.WideShapes Go.ChangeAt Go.RowKit
set_option maxRecDepth 1000000

set_option maxHeartbeats 2000000 in
theorem writes_much (w : World) (v0 : Value) (x0 : Ob) (hb0 : ObjAt w v0 x0) (x1 : List Int) (a5 : Option Addr) (c5 : Nat) (h : longO x0 = true ∨ 6000 < x1.length) :
    Calls Try.prog 3 #[v0, .slice a5 x1.length c5] w fun e w' => e = .returned (.bool true) ∧ Below w.heap.size w w' := by
  have HN : Hid (∀ w', Calls Try.prog 12 #[] w' fun e w'' => e = .returned (.bool true) ∧ Below w'.heap.size w' w'') := known_true
  have HL := Lib.hid (fun (w' : World) (h : Below w.heap.size w w') => long_any v0 x0 w' (hb0.kept h))
  obtain ⟨wv, bv, rfl, ⟨_, _, a1, c1, rfl, _⟩, ⟨_, _, a2, c2, rfl, _⟩, _, _⟩ := hb0
  obtain ⟨c, k, l, b⟩ := x0
  simp only at *
  have HA := Lib.hid (Seen.start w c k (.slice a1 l.length c1) (.slice a2 b.length c2))
  cases hl : longO ⟨c, k, l, b⟩ with
  | true =>
    rw [hl] at HL
    clear hl h
    go_enter Try.func3, Try.ntmps3
    go_wp2_with fail
    refine (HL.out _ HA.out.2.2.2.2.out).mono ?_
    rintro e w1 ⟨rfl, hb1⟩
    have B1 := (HA.out.kept hb1).2.2.2.2
    clear hb1
    go_wp2_with fail
    refine (HN.out _).mono ?_
    rintro e w2 ⟨rfl, hb2⟩
    have B2 := Lib.hid (B1.out.trans (hb2.mono B1.out.size))
    clear hb2
    go_wp2
    go_ret
    exact ⟨rfl, B2.out⟩
  | false =>
    have h6 : (6000 : Int) < x1.length := by rw [hl] at h; simp at h; omega
    rw [hl] at HL
    clear hl h
    go_enter Try.func3, Try.ntmps3
    go_wp2_with fail
    refine (HL.out _ HA.out.2.2.2.2.out).mono ?_
    rintro e w1 ⟨rfl, hb1⟩
    have B1 := (HA.out.kept hb1).2.2.2.2
    clear hb1
    go_wp2_with fail
    refine (HN.out _).mono ?_
    rintro e w2 ⟨rfl, hb2⟩
    have B2 := Lib.hid (B1.out.trans (hb2.mono B1.out.size))
    clear hb2
    go_wp2
    go_ret
    exact ⟨rfl, B2.out⟩

theorem wideWrites_walk (w : World) (v0 : Value) (x0 : Ob) (hb0 : ObjAt w v0 x0) (_ : x0.w.length ≤ maxLen ∧ x0.b.length ≤ maxLen) (v1 : Value) (x1 : List Int) (hb1 : RowB w v1 x1) (_ : x1.length ≤ maxLen) :
    Calls Try.prog 3 #[v0, v1] w fun e w' => e = .returned (.bool true) ∧ Below w.heap.size w w' := by
  have X1 := Lib.hid hb1
  obtain ⟨_, _, a5, c5, rfl, _⟩ := hb1
  by_cases hmuch : longO x0 = true ∨ 6000 < x1.length
  · exact writes_much w v0 x0 hb0 x1 a5 c5 hmuch
  have hl : longO x0 = false := by cases h : longO x0 <;> simp_all
  have h6 : ¬ 6000 < x1.length := fun h => hmuch (.inr h)
  clear hmuch
  have HO := Lib.hid hb0
  obtain ⟨wv, bv, rfl, ⟨_, _, a1, c1, rfl, _⟩, ⟨_, _, a2, c2, rfl, _⟩, _, _⟩ := hb0
  obtain ⟨c, k, l, b⟩ := x0
  simp only at *
  by_cases h1 : k = 1
  · exact writes_words w c k l b a1 a2 c1 c2 HO.out hl x1 a5 c5 X1 h6 h1
  by_cases h2 : k = 2
  · exact writes_bytes w c k l b a1 a2 c1 c2 HO.out hl x1 a5 c5 X1 h6 h2
  exact writes_none w c k l b a1 a2 c1 c2 HO.out hl x1 a5 c5 X1 h6 ⟨h1, h2⟩
end Go.Proofs.Ytbkojjbigilclaa
