/- The walk of the law WideDecode: it returns true for every row of bytes. -/
import Derived.Test.YtbkojjbigilclaaRdl
import Derived.Test.YtbkojjbigilclaaLawE
namespace Go.Proofs.Ytbkojjbigilclaa
open Go.ChangeShapes Go.WideShapes Go.ChangeAt Go.RowKit
set_option maxRecDepth 1000000

theorem short_ok {o : Ob} (h : okO o = true) : Short o := by
  obtain ⟨_, ⟨_, h2, h3, _⟩ | ⟨_, h2, h3⟩⟩ := (okO_iff o).1 h
  · exact ⟨by omega, by simp [h2]⟩
  · exact ⟨by simp [h2], by omega⟩
theorem refdec_yes (v : Value) (xs : List Int) (w : World) (h : RowB w v xs) (hl2 : xs.length ≤ 10000) (hd : decB xs = true) : Calls Try.prog 16 #[v] w (DecYes (rdO xs) w) := (refdec_any v xs w h hl2).mono fun _ _ h => h.1 hd
theorem refdec_no (v : Value) (xs : List Int) (w : World) (h : RowB w v xs) (hl2 : xs.length ≤ 10000) (hd : decB xs = false) : Calls Try.prog 16 #[v] w (DecNo w) := (refdec_any v xs w h hl2).mono fun _ _ h => h.2 hd

set_option maxHeartbeats 2000000 in
theorem wideDecode_walk (w : World) (v0 : Value) (x0 : List Int) (hb0 : RowB w v0 x0) (hm0 : x0.length ≤ maxLen) :
    Calls Try.prog 8 #[v0] w fun e w' => e = .returned (.bool true) ∧ Below w.heap.size w w' := by
  have HN : Hid (∀ w', Calls Try.prog 12 #[] w' fun e w'' => e = .returned (.bool true) ∧ Below w'.heap.size w' w'') := known_true
  have HR := Lib.hid hb0
  obtain ⟨_, _, a, c, rfl, _⟩ := hb0
  unfold maxLen at hm0
  by_cases hl : 6000 < x0.length
  · have hl' : (6000 : Int) < x0.length := by omega
    go_enter Try.func8, Try.ntmps8
    go_wp2_with fail
    refine (HN.out _).mono ?_
    rintro e w2 ⟨rfl, hb2⟩
    go_wp2
    go_ret
    exact ⟨rfl, hb2⟩
  have hl' : ¬ (6000 : Int) < x0.length := by omega
  cases hd : decB x0 with
  | true =>
    have HD : Hid (∀ w', Below w.heap.size w w' → Calls Try.prog 15 #[.slice a x0.length c] w' (DecYes (rdO x0) w')) := fun w' h => decode_yes _ x0 w' (HR.out.kept h) (by omega) hd
    have HE : Hid (∀ w', Below w.heap.size w w' → Calls Try.prog 16 #[.slice a x0.length c] w' (DecYes (rdO x0) w')) := fun w' h => refdec_yes _ x0 w' (HR.out.kept h) (by omega) hd
    have HS := Lib.hid (short_ok (dec_parts hd).2.1)
    clear hd hl
    generalize rdO x0 = o at *
    obtain ⟨x, k, l, b⟩ := o
    go_enter Try.func8, Try.ntmps8
    go_wp2_with fail
    refine (HD.out _ (Below.refl _ _)).mono ?_
    rintro e w1 ⟨v1, rfl, ho1, hb1⟩
    have O1 := Lib.hid ho1
    obtain ⟨wv, bv, rfl, ⟨_, _, a1, c1, rfl, _⟩, ⟨_, _, a2, c2, rfl, _⟩, _, _⟩ := ho1
    simp only at *
    have X1 := Lib.hid (box_new w1 (.int .i64 x) (.int .i64 k) (.slice a1 l.length c1) (.slice a2 b.length c2))
    have A1 : Hid (Below w1.heap.size w1 (w1.alloc (.cells #[.int .i64 x, .int .i64 k, .slice a1 l.length c1, .slice a2 b.length c2] 25))) := (Below.refl _ _).alloc (Nat.le_refl _) _
    have B1 := Lib.hid (hb1.trans (A1.out.mono hb1.size))
    clear hb1
    go_wp2_with fail
    refine (HE.out _ B1.out).mono ?_
    rintro e w2 ⟨v2, rfl, ho2, hb2⟩
    have O2 := Lib.hid ho2
    obtain ⟨wv, bv, rfl, ⟨_, _, a3, c3, rfl, _⟩, ⟨_, _, a4, c4, rfl, _⟩, _, _⟩ := ho2
    simp only at *
    have A2 : Hid (Below w2.heap.size w2 (w2.alloc (.cells #[.int .i64 x, .int .i64 k, .slice a3 l.length c3, .slice a4 b.length c4] 25))) := (Below.refl _ _).alloc (Nat.le_refl _) _
    have X2 := (X1.out.next hb2).next A2.out
    have P1 := Lib.hid (((O1.out.kept A1.out).kept hb2).kept A2.out)
    have P2 := Lib.hid (O2.out.kept A2.out)
    have B2 := Lib.hid (B1.out.trans (hb2.mono B1.out.size))
    have B3 := Lib.hid (B2.out.trans (A2.out.mono B2.out.size))
    obtain ⟨⟨x0', x1', x2', x3'⟩, _, _⟩ := X2
    clear hb2
    go_wp2_with fail
    refine (same_ref _ _ _ _ _ P1.out P2.out HS.out HS.out).mono ?_
    rintro e w4 ⟨rfl, hb4⟩
    rw [sameO_self]
    have B4 := Lib.hid (B3.out.trans (hb4.mono B3.out.size))
    clear hb4 x0' x1' x2' x3'
    go_wp2_with fail
    refine (HN.out _).mono ?_
    rintro e w5 ⟨rfl, hb5⟩
    have B5 := Lib.hid (B4.out.trans (hb5.mono B4.out.size))
    clear hb5
    go_wp2
    go_ret
    exact ⟨rfl, B5.out⟩
  | false =>
    have HD : Hid (∀ w', Below w.heap.size w w' → Calls Try.prog 15 #[.slice a x0.length c] w' (DecNo w')) := fun w' h => decode_no _ x0 w' (HR.out.kept h) (by omega) hd
    have HE : Hid (∀ w', Below w.heap.size w w' → Calls Try.prog 16 #[.slice a x0.length c] w' (DecNo w')) := fun w' h => refdec_no _ x0 w' (HR.out.kept h) (by omega) hd
    clear hd hl
    go_enter Try.func8, Try.ntmps8
    go_wp2_with fail
    refine (HD.out _ (Below.refl _ _)).mono ?_
    rintro e w1 ⟨rfl, hb1⟩
    have X1 := Lib.hid (box_new w1 (.int .i64 0) (.int .i64 0) (.slice none 0 0) (.slice none 0 0))
    have A1 : Hid (Below w1.heap.size w1 (w1.alloc (.cells #[.int .i64 0, .int .i64 0, .slice none 0 0, .slice none 0 0] 25))) := (Below.refl _ _).alloc (Nat.le_refl _) _
    have B1 := Lib.hid (hb1.trans (A1.out.mono hb1.size))
    clear hb1
    go_wp2_with fail
    refine (HE.out _ B1.out).mono ?_
    rintro e w2 ⟨rfl, hb2⟩
    have A2 : Hid (Below w2.heap.size w2 (w2.alloc (.cells #[.int .i64 0, .int .i64 0, .slice none 0 0, .slice none 0 0] 25))) := (Below.refl _ _).alloc (Nat.le_refl _) _
    have X2 := (X1.out.next hb2).next A2.out
    have B2 := Lib.hid (B1.out.trans (hb2.mono B1.out.size))
    have B3 := Lib.hid (B2.out.trans (A2.out.mono B2.out.size))
    obtain ⟨⟨x0', x1', x2', x3'⟩, _, _⟩ := X2
    clear hb2
    go_wp2_with fail
    refine (same_ref _ _ _ _ _ (obj_zero _) (obj_zero _) (by constructor <;> decide) (by constructor <;> decide)).mono ?_
    rintro e w4 ⟨rfl, hb4⟩
    rw [sameO_self]
    have B4 := Lib.hid (B3.out.trans (hb4.mono B3.out.size))
    clear hb4 x0' x1' x2' x3'
    go_wp2_with fail
    refine (HN.out _).mono ?_
    rintro e w5 ⟨rfl, hb5⟩
    have B5 := Lib.hid (B4.out.trans (hb5.mono B4.out.size))
    clear hb5
    go_wp2
    go_ret
    exact ⟨rfl, B5.out⟩
end Go.Proofs.Ytbkojjbigilclaa
