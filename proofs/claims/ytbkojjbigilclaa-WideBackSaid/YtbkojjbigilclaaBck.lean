/- The walk of the law WideBack: it returns true for every object, every row of bytes, every place and every byte. -/
import Derived.Test.YtbkojjbigilclaaBkb
import Derived.Test.YtbkojjbigilclaaBkn
import Derived.Test.YtbkojjbigilclaaBkf
import Derived.Test.YtbkojjbigilclaaBki
namespace Go.Proofs.Ytbkojjbigilclaa
open Go.ChangeShapes Go.WideShapes Go.ChangeAt Go.RowKit
set_option maxRecDepth 1000000

set_option maxHeartbeats 4000000 in
theorem back_bad (w : World) (c k : Int) (l b : List Int) (a1 a2 : Option Addr) (c1 c2 : Nat) (hb0 : ObjAt w (.agg #[.int .i64 c, .int .i64 k, .slice a1 l.length c1, .slice a2 b.length c2]) ⟨c, k, l, b⟩) (hl : longO ⟨c, k, l, b⟩ = false) (hok : okO ⟨c, k, l, b⟩ = false) (x1 : List Int) (a5 : Option Addr) (c5 : Nat) (X1 : Hid (RowB w (.slice a5 x1.length c5) x1)) (h6 : ¬ 6000 < x1.length) (z m : Int) :
    Calls Try.prog 4 #[.agg #[.int .i64 c, .int .i64 k, .slice a1 l.length c1, .slice a2 b.length c2], .slice a5 x1.length c5, .int .i64 z, .int .u8 m] w fun e w' => e = .returned (.bool true) ∧ Below w.heap.size w w' := by
  have HN : Hid (∀ w', Calls Try.prog 12 #[] w' fun e w'' => e = .returned (.bool true) ∧ Below w'.heap.size w' w'') := known_true
  have HL : Hid (∀ w', Below w.heap.size w w' → Calls Try.prog 11 #[.agg #[.int .i64 c, .int .i64 k, .slice a1 l.length c1, .slice a2 b.length c2]] w' fun e w'' => e = .returned (.bool false) ∧ Below w'.heap.size w' w'') := fun w' h => (long_any _ _ w' (hb0.kept h)).mono fun _ _ h => by rw [hl] at h; exact h
  have HE := Lib.hid (fun (w' : World) (h : Below w.heap.size w w') => encode_not _ _ w' (hb0.kept h) hok)
  have HA := Lib.hid (Seen.start w c k (.slice a1 l.length c1) (.slice a2 b.length c2))
  have h6' : ¬ (6000 : Int) < x1.length := by omega
  clear hb0 hok hl
  go_enter Try.func4, Try.ntmps4
  go_wp2_with fail
  refine (HL.out _ HA.out.2.2.2.2.out).mono ?_
  rintro e w1 ⟨rfl, hb1⟩
  obtain ⟨b0, b1, b2, b3, b4⟩ := HA.out.kept hb1
  clear hb1
  go_wp2_with fail
  refine (HE.out _ b4.out).mono ?_
  rintro e w2 ⟨rfl, hb2⟩
  have BC := Lib.hid (b4.out.trans (hb2.mono b4.out.size))
  clear b0 b1 b2 b3 b4 hb2
  cases hd : decB x1 with
  | true =>
    have HD : Hid (∀ w', Below w.heap.size w w' → Calls Try.prog 15 #[.slice a5 x1.length c5] w' (DecYes (rdO x1) w')) := fun w' h => decode_yes _ x1 w' (X1.out.kept h) (by omega) hd
    have HE : Hid (∀ w' v, ObjAt w' v (rdO x1) → Calls Try.prog 13 #[v] w' (EncYes x1 w')) := fun w' v h => by
      have := encode_yes v _ w' h (dec_parts hd).2.1
      rw [enc_dec hd X1.out.2.1] at this
      exact this
    clear hd
    generalize rdO x1 = oo at *
    obtain ⟨x, k', l', b'⟩ := oo
    go_wp2_with fail
    refine (HD.out _ BC.out).mono ?_
    rintro e w20 ⟨v20, rfl, ho20, hb20⟩
    have O20 := Lib.hid ho20
    obtain ⟨wv, bv, rfl, ⟨_, _, a3, c3, rfl, _⟩, ⟨_, _, a4, c4, rfl, _⟩, _, _⟩ := ho20
    simp only at *
    have A20 : Hid (Below w20.heap.size w20 (w20.alloc (.cells #[.int .i64 x, .int .i64 k', .slice a3 l'.length c3, .slice a4 b'.length c4] 25))) := (Below.refl _ _).alloc (Nat.le_refl _) _
    have P20 := Lib.hid (O20.out.kept A20.out)
    have B20 := Lib.hid (BC.out.trans (hb20.mono BC.out.size))
    have B21 := Lib.hid (B20.out.trans (A20.out.mono B20.out.size))
    clear hb20
    go_wp2_with fail
    refine (HE.out _ _ P20.out).mono ?_
    rintro e w22 ⟨v22, rfl, ho22, hb22⟩
    have R22 := Lib.hid (own_bts ho22)
    have B22 := Lib.hid (B21.out.trans (hb22.mono B21.out.size))
    have X22 := Lib.hid (X1.out.kept B22.out).1
    clear hb22 ho22
    go_wp2_with fail
    refine (same_eq _ _ _ _ R22.out X22.out).mono ?_
    rintro e w23 ⟨rfl, rfl⟩
    go_wp2_with fail
    refine (HN.out _).mono ?_
    rintro e w24 ⟨rfl, hb24⟩
    have B24 := Lib.hid (B22.out.trans (hb24.mono B22.out.size))
    clear hb24
    go_wp2
    go_ret
    exact ⟨rfl, B24.out⟩
  | false =>
    have HD : Hid (∀ w', Below w.heap.size w w' → Calls Try.prog 15 #[.slice a5 x1.length c5] w' (DecNo w')) := fun w' h => decode_no _ x1 w' (X1.out.kept h) (by omega) hd
    clear hd
    go_wp2_with fail
    refine (HD.out _ BC.out).mono ?_
    rintro e w20 ⟨rfl, hb20⟩
    have A20 : Hid (Below w20.heap.size w20 (w20.alloc (.cells #[.int .i64 0, .int .i64 0, .slice none 0 0, .slice none 0 0] 25))) := (Below.refl _ _).alloc (Nat.le_refl _) _
    have B20 := Lib.hid (BC.out.trans (hb20.mono BC.out.size))
    have B21 := Lib.hid (B20.out.trans (A20.out.mono B20.out.size))
    clear hb20
    go_wp2_with fail
    refine (HN.out _).mono ?_
    rintro e w24 ⟨rfl, hb24⟩
    have B24 := Lib.hid (B21.out.trans (hb24.mono B21.out.size))
    clear hb24
    go_wp2
    go_ret
    exact ⟨rfl, B24.out⟩

set_option maxHeartbeats 2000000 in
theorem back_much (w : World) (v0 : Value) (x0 : Ob) (hb0 : ObjAt w v0 x0) (x1 : List Int) (a5 : Option Addr) (c5 : Nat) (h : longO x0 = true ∨ 6000 < x1.length) (z m : Int) :
    Calls Try.prog 4 #[v0, .slice a5 x1.length c5, .int .i64 z, .int .u8 m] w fun e w' => e = .returned (.bool true) ∧ Below w.heap.size w w' := by
  have HN : Hid (∀ w', Calls Try.prog 12 #[] w' fun e w'' => e = .returned (.bool true) ∧ Below w'.heap.size w' w'') := known_true
  have HL := Lib.hid (fun (w' : World) (h : Below w.heap.size w w') => long_any v0 x0 w' (hb0.kept h))
  obtain ⟨wv, bv, rfl, ⟨_, _, a1, c1, rfl, _⟩, ⟨_, _, a2, c2, rfl, _⟩, _, _⟩ := hb0
  obtain ⟨c, k, l, b⟩ := x0
  simp only at *
  have HA := Lib.hid (Seen.start w c k (.slice a1 l.length c1) (.slice a2 b.length c2))
  cases hl : longO ⟨c, k, l, b⟩ with
  | true =>
    rw [hl] at HL
    clear hl h
    go_enter Try.func4, Try.ntmps4
    go_wp2_with fail
    refine (HL.out _ HA.out.2.2.2.2.out).mono ?_
    rintro e w1 ⟨rfl, hb1⟩
    have B1 := (HA.out.kept hb1).2.2.2.2
    clear hb1
    go_wp2_with fail
    refine (HN.out _).mono ?_
    rintro e w2 ⟨rfl, hb2⟩
    have B2 := Lib.hid (B1.out.trans (hb2.mono B1.out.size))
    clear hb2
    go_wp2
    go_ret
    exact ⟨rfl, B2.out⟩
  | false =>
    have h6 : (6000 : Int) < x1.length := by rw [hl] at h; simp at h; omega
    rw [hl] at HL
    clear hl h
    go_enter Try.func4, Try.ntmps4
    go_wp2_with fail
    refine (HL.out _ HA.out.2.2.2.2.out).mono ?_
    rintro e w1 ⟨rfl, hb1⟩
    have B1 := (HA.out.kept hb1).2.2.2.2
    clear hb1
    go_wp2_with fail
    refine (HN.out _).mono ?_
    rintro e w2 ⟨rfl, hb2⟩
    have B2 := Lib.hid (B1.out.trans (hb2.mono B1.out.size))
    clear hb2
    go_wp2
    go_ret
    exact ⟨rfl, B2.out⟩

theorem wideBack_walk (w : World) (v0 : Value) (x0 : Ob) (hb0 : ObjAt w v0 x0) (_ : x0.w.length ≤ maxLen ∧ x0.b.length ≤ maxLen) (v1 : Value) (x1 : List Int) (hb1 : RowB w v1 x1) (_ : x1.length ≤ maxLen) (z : Int) (_ : (Lit.int .i64 z).wf = true) (m : Int) (hm : (Lit.int .u8 m).wf = true) :
    Calls Try.prog 4 #[v0, v1, .int .i64 z, .int .u8 m] w fun e w' => e = .returned (.bool true) ∧ Below w.heap.size w w' := by
  have X1 := Lib.hid hb1
  obtain ⟨_, _, a5, c5, rfl, _⟩ := hb1
  have hm' : 0 ≤ m ∧ m ≤ 255 := by
    simp only [Lit.wf, IntKind.min, IntKind.max, IntKind.signed, IntKind.bits, Bool.and_eq_true] at hm
    simp at hm; omega
  by_cases hmuch : longO x0 = true ∨ 6000 < x1.length
  · exact back_much w v0 x0 hb0 x1 a5 c5 hmuch z m
  have hl : longO x0 = false := by cases h : longO x0 <;> simp_all
  have h6 : ¬ 6000 < x1.length := fun h => hmuch (.inr h)
  clear hmuch
  have HO := Lib.hid hb0
  obtain ⟨wv, bv, rfl, ⟨_, _, a1, c1, rfl, _⟩, ⟨_, _, a2, c2, rfl, _⟩, _, _⟩ := hb0
  obtain ⟨c, k, l, b⟩ := x0
  simp only at *
  cases hok : okO ⟨c, k, l, b⟩ with
  | false => exact back_bad w c k l b a1 a2 c1 c2 HO.out hl hok x1 a5 c5 X1 h6 z m
  | true =>
    rcases ((okO_iff _).1 hok).2 with ⟨hk, _⟩ | ⟨hk, _⟩
    · have hk1 : k = 1 := hk
      subst hk1
      by_cases hz : z < 0
      · exact back_neg w c l b a1 a2 c1 c2 HO.out hl hok x1 a5 c5 X1 h6 z m hm' hz
      by_cases hf : (l.length : Int) ≤ z
      · exact back_far w c l b a1 a2 c1 c2 HO.out hl hok x1 a5 c5 X1 h6 z m hm' hf
      exact back_in w c l b a1 a2 c1 c2 HO.out hl hok x1 a5 c5 X1 h6 z m hm' z.toNat (by omega) (by omega)
    · have hk2 : k = 2 := hk
      subst hk2
      exact back_bytes w c l b a1 a2 c1 c2 HO.out hl hok x1 a5 c5 X1 h6 z m hm'
end Go.Proofs.Ytbkojjbigilclaa
