/- Proved: for every int n and all bytes ahead the law WordBack returns true: a small number is read back from its reference, its four bytes behind any others, and its narrow word, and names no object. No condition. -/
import Derived.Test.YteemgmagnhkifaaOpen
import Derived.Laws.AppendOwnNone
namespace Go.Proofs.Yteemgmagnhkifaa.wordBack
open Go.ChangeShapes Go.WideShapes Go.ChangeAt Go.RowKit

theorem small_is (n : Int) (w : World) (a : -1073741824 ≤ n) (b : n ≤ 1073741823) : Calls Try.prog 14 #[.int .i64 n] w fun e w' => e = .returned (.tuple #[.int .i64 (2 * n + 1), .int .i64 0]) ∧ w = w' := by
  have h := small_any n w (by omega) (by omega)
  rw [← (small_yes a b).1, ← (small_yes a b).2] at h; exact h
theorem small_not (n : Int) (w : World) (h1 : -9223372036854775808 ≤ n) (h2 : n ≤ 9223372036854775807) (a : ¬ (-1073741824 ≤ n ∧ n ≤ 1073741823)) : Calls Try.prog 14 #[.int .i64 n] w fun e w' => e = .returned (.tuple #[.int .i64 0, .int .i64 2]) ∧ w = w' := by
  have h := small_any n w (by omega) (by omega)
  rw [← (small_no a).1, ← (small_no a).2] at h; exact h
theorem narrow_of (n : Int) (w : World) (a : -16384 ≤ n) (b : n ≤ 16383) : Calls Try.prog 20 #[.int .i64 (2 * n + 1)] w fun e w' => e = .returned (.tuple #[.int .i64 ((2 * n + 1) % 65536), .bool true]) ∧ w = w' := by
  have h := narrow_any (2 * n + 1) w (by omega) (by omega)
  have e := nar_yes (o := 2 * n + 1) (by omega) (by omega) (by omega)
  rw [← e.1, ← e.2] at h; exact h
theorem narrow_far (n : Int) (w : World) (a : -1073741824 ≤ n) (b : n ≤ 1073741823) (c : ¬ (-16384 ≤ n ∧ n ≤ 16383)) : Calls Try.prog 20 #[.int .i64 (2 * n + 1)] w fun e w' => e = .returned (.tuple #[.int .i64 0, .bool false]) ∧ w = w' := by
  have h := narrow_any (2 * n + 1) w (by omega) (by omega)
  have e := nar_no (o := 2 * n + 1) (by omega)
  rw [← e.1, ← e.2] at h; exact h
theorem wide_of (n : Int) (w : World) (a : -16384 ≤ n) (b : n ≤ 16383) : Calls Try.prog 22 #[.int .i64 ((2 * n + 1) % 65536)] w fun e w' => e = .returned (.tuple #[.int .i64 (2 * n + 1), .bool true]) ∧ w = w' := by
  have h := wide_any ((2 * n + 1) % 65536) w (by omega) (by omega)
  by_cases hn : 0 ≤ n
  · have e := wid_lo (o := (2 * n + 1) % 65536) (by omega) (by omega) (by omega)
    rw [← e.1, ← e.2, show (2 * n + 1) % 65536 = 2 * n + 1 by omega] at h
    rw [show (2 * n + 1) % 65536 = 2 * n + 1 by omega]; exact h
  · have e := wid_hi (o := (2 * n + 1) % 65536) (by omega) (by omega) (by omega)
    rw [← e.1, ← e.2, show (2 * n + 1) % 65536 - 65536 = 2 * n + 1 by omega] at h; exact h
theorem wide_0 (w : World) : Calls Try.prog 22 #[.int .i64 0] w fun e w' => e = .returned (.tuple #[.int .i64 0, .bool false]) ∧ w = w' := wide_any 0 w (by decide) (by decide)

theorem bytes_app {xs : List Int} (h : Bytes xs) (o : Int) : Bytes (xs ++ byts o 4) := by
  intro i
  by_cases hi : i < xs.length
  · have e : (xs ++ byts o 4).getD i 0 = xs.getD i 0 := by simp [List.getD, List.getElem?_append_left hi]
    rw [e]; exact h i
  · have e : (xs ++ byts o 4).getD i 0 = (byts o 4).getD (i - xs.length) 0 := by simp [List.getD, List.getElem?_append_right (Nat.le_of_not_lt hi)]
    rw [e]; exact byts_Bytes o 4 _
theorem get_behind (v : Value) (xs : List Int) (o : Int) (w : World) (hb : Bts w v (xs ++ byts o 4)) (hl : xs.length ≤ 4000) (hx : Bytes xs) (h1 : -2147483648 ≤ o) (h2 : o ≤ 2147483647) :
    Calls Try.prog 27 #[v, .int .i64 (xs.length : Int)] w fun e w' => e = .returned (.tuple #[.int .i64 o, .int .i64 0]) ∧ w = w' := by
  have hn : (xs ++ byts o 4).length = xs.length + 4 := by rw [List.length_append, byts_len]
  have h := get_yes v (xs ++ byts o 4) xs.length w hb (bytes_app hx o) (by omega) (by omega)
  have e := acc_app xs (byts o 4) 0 4 (by rw [byts_len]; omega)
  rw [Nat.add_zero, acc_byts] at e
  rw [e, sgn_mod o h1 h2] at h
  exact h
theorem bytes_nil : Bytes [] := by intro i; simp

theorem nil_form {H : Type} {enc : TypeId × Value → H} {W : World} {v : Value} {d : DataW H} {ps : List MemPlace}
    (h : DataW.Trod enc Try.prog W 0 (fun _ => true) true 33 v d ps) : ∀ c, v = .slice none 0 c → c = 0 := by
  rintro c rfl
  obtain ⟨fuel, hf⟩ := h
  rcases open_ints Try.underlying33 Try.underlying5 Try.cells5 hf with ⟨hcs, _⟩ | ⟨a, len', cap', zs, hcs, _⟩
  · simpa [Value.cells] using hcs
  · simp [Value.cells] at hcs

/-- The slice is nil, or has an address, at which its bytes stand. -/
theorem form {w : World} {v : Value} {xs : List Int} (h : Bts w v xs) (hn : ∀ c, v = .slice none 0 c → c = 0) :
    (v = .slice none 0 0 ∧ xs = []) ∨ ∃ ad c, v = .slice (some ad) xs.length c ∧ ∀ j u, (xs.map (Value.int .u8))[j]? = some u → w.cell? (ad.add j) = some u := by
  obtain ⟨a, c, rfl, h⟩ := h
  rcases h with rfl | ⟨b, off, rfl, h⟩
  · rcases a with _ | ad
    · left; rw [hn c rfl]; exact ⟨rfl, rfl⟩
    · right; exact ⟨ad, c, rfl, fun j u hu => by simp at hu⟩
  · right
    refine ⟨_, c, rfl, fun j u hu => ?_⟩
    have hj : j < xs.length := by
      rcases Nat.lt_or_ge j xs.length with hj | hj
      · exact hj
      · rw [List.getElem?_eq_none (by simpa using hj)] at hu; cases hu
    rw [add_plain, h j hj]
    simp [List.getElem?_eq_getElem hj] at hu
    rw [← hu]
    simp [List.getD, List.getElem?_eq_getElem hj]

set_option maxHeartbeats 1600000 in
set_option maxRecDepth 1000000 in
theorem walk (w : World) (a0 : Int) (w0 : (Lit.int .i64 a0).wf = true) (v1 : Value) (x1 : List Int) (hb1 : Bts w v1 x1) (hy1 : Bytes x1) (hn1 : ∀ c, v1 = .slice none 0 c → c = 0) :
    Calls Try.prog 5 #[.int .i64 a0, v1] w fun e w' => e = .returned (.bool true) ∧ Below w.heap.size w w' := by
  obtain ⟨h1, h2⟩ := wf_i64 w0
  obtain ⟨i0, hi, hz0, hz1, hz2⟩ := info_parts Try.info5
  have HY := Lib.hid hy1
  clear hy1
  have hform := form hb1 hn1
  by_cases hs : -1073741824 ≤ a0 ∧ a0 ≤ 1073741823
  · obtain ⟨n1, n2⟩ := hs
    by_cases hl : 4000 < x1.length
    · obtain ⟨a, c, rfl, _⟩ := hb1
      clear hform hn1
      have hl' : (4000 : Int) < x1.length := by omega
      go_enter Try.func5, Try.ntmps5
      go_wp2_with (first | (go_at_call 14; refine (small_is _ _ n1 n2).mono ?_; rintro e w1 ⟨rfl, rfl⟩) | (go_at_call 26; refine (known_true _).mono ?_; rintro e w2 ⟨rfl, hb2⟩))
      go_ret
      exact ⟨rfl, hb2⟩
    · clear hb1 hn1
      rcases hform with ⟨rfl, rfl⟩ | ⟨ad, c, rfl, had⟩
      · by_cases hf : -16384 ≤ a0 ∧ a0 ≤ 16383
        · obtain ⟨m1, m2⟩ := hf
          have m3 : a0 < 16384 := by omega
          go_enter Try.func5, Try.ntmps5
          go_wp2_with fail
          refine (small_is a0 _ n1 n2).mono ?_
          rintro e w1 ⟨rfl, rfl⟩
          go_wp2_with fail
          refine (number_of a0 _ n1 n2).mono ?_
          rintro e w1 ⟨rfl, rfl⟩
          go_wp2_with fail
          refine (named_odd a0 _ n1 n2).mono ?_
          rintro e w1 ⟨rfl, rfl⟩
          go_wp2_with (at_builtin; refine wpList_append_own_none rfl _ _ 33 rfl w.heap.size 5 i0 1 Try.underlying33 hi (.slice none 0 0) 0 [] rfl (World.ownsRow_nil _ _ _ _) rfl ?_)
          have hown2 : w.ownsRow w.heap.size 5 1 (.slice none 0 0) ([] : List Int).length (([] : List Int).map (Value.int .u8)) := World.ownsRow_nil _ _ _ _
          have hb2 : Below w.heap.size w w := Below.refl _ _
          go_wp2_with fail
          refine (put_any (2 * a0 + 1) w).mono ?_
          rintro e w3 ⟨v3, rfl, hown3, hb3⟩
          rw [byts_len] at hown3
          obtain ⟨g, c', rfl, hg⟩ := own_form4 hown3
          have hown2' : w3.ownsRow w.heap.size 5 1 (.slice none 0 0) ([] : List Int).length (([] : List Int).map (Value.int .u8)) :=
            hown2.kept (row := none) ⟨hb3.os, hb3.tape, hb3.output, hb3.size, fun i hi _ => hb3.block i hi⟩ (.inl rfl)
          have HCS := Lib.hid (hown3.cells (g := g) rfl)
          have hsz3 := hb3.size
          have hsz2 := hb2.size
          have HB3 := Lib.hid hb3
          have HB2 := Lib.hid hb2
          have HO3 := Lib.hid hown3
          clear hb3 hb2 hown3
          go_wp2_with (at_builtin; refine wpList_append_own _ rfl _ _ 33 rfl w.heap.size 5 i0 (.int .u8 0) 1 1 Try.underlying33 hi hz0 hz1 hz2 rfl (by decide) _ _ _ rfl hown2' ⟨g, 0, none⟩ 4 c' ((byts (2 * a0 + 1) 4).map (Value.int .u8)) rfl (by simp [byts_len]) ?c1 ?c2 ?c3 ?c4 ?c5 ?_)
          case c1 => exact HCS.out
          case c2 => intro u hu; simp at hu; obtain ⟨x, _, rfl⟩ := hu; rfl
          case c3 => (try simp only [List.length_nil]); unfold maxLen; omega
          case c4 => (try simp only [List.length_nil]); omega
          case c5 => omega
          intro v4 w4 hown4 hgrow _
          have hb4 : Below w.heap.size w w4 := (HB2.out.trans (HB3.out.mono hsz2)).grown hgrow (by omega) fun g hg => (hown2'.lt g hg).1
          have hbt : Bts w4 v4 (byts (2 * a0 + 1) 4) := own_bts (base := w.heap.size) (by rw [byts_len]; simpa using hown4)
          clear hown4 hgrow hown2' hown2
          go_wp2_with fail
          refine (get_put_is v4 (2 * a0 + 1) _ hbt (by omega) (by omega)).mono ?_
          rintro e w5 ⟨rfl, rfl⟩
          go_wp2_with fail
          refine (narrow_of a0 _ m1 m2).mono ?_
          rintro e w5 ⟨rfl, rfl⟩
          go_wp2_with fail
          refine (wide_of a0 _ m1 m2).mono ?_
          rintro e w5 ⟨rfl, rfl⟩
          go_wp2_with fail
          refine (known_true _).mono ?_
          rintro e w6 ⟨rfl, hb6⟩
          go_wp2
          go_ret
          exact ⟨rfl, hb4.trans (hb6.mono hb4.size)⟩
        · have HF := Lib.hid hf
          clear hf
          by_cases hlow : a0 < -16384
          · have hd : decide (-16384 ≤ a0) = false := by simp; omega
            go_enter Try.func5, Try.ntmps5
            go_wp2_with fail
            refine (small_is a0 _ n1 n2).mono ?_
            rintro e w1 ⟨rfl, rfl⟩
            go_wp2_with fail
            refine (number_of a0 _ n1 n2).mono ?_
            rintro e w1 ⟨rfl, rfl⟩
            go_wp2_with fail
            refine (named_odd a0 _ n1 n2).mono ?_
            rintro e w1 ⟨rfl, rfl⟩
            go_wp2_with (at_builtin; refine wpList_append_own_none rfl _ _ 33 rfl w.heap.size 5 i0 1 Try.underlying33 hi (.slice none 0 0) 0 [] rfl (World.ownsRow_nil _ _ _ _) rfl ?_)
            have hown2 : w.ownsRow w.heap.size 5 1 (.slice none 0 0) ([] : List Int).length (([] : List Int).map (Value.int .u8)) := World.ownsRow_nil _ _ _ _
            have hb2 : Below w.heap.size w w := Below.refl _ _
            go_wp2_with fail
            refine (put_any (2 * a0 + 1) w).mono ?_
            rintro e w3 ⟨v3, rfl, hown3, hb3⟩
            rw [byts_len] at hown3
            obtain ⟨g, c', rfl, hg⟩ := own_form4 hown3
            have hown2' : w3.ownsRow w.heap.size 5 1 (.slice none 0 0) ([] : List Int).length (([] : List Int).map (Value.int .u8)) :=
              hown2.kept (row := none) ⟨hb3.os, hb3.tape, hb3.output, hb3.size, fun i hi _ => hb3.block i hi⟩ (.inl rfl)
            have HCS := Lib.hid (hown3.cells (g := g) rfl)
            have hsz3 := hb3.size
            have hsz2 := hb2.size
            have HB3 := Lib.hid hb3
            have HB2 := Lib.hid hb2
            have HO3 := Lib.hid hown3
            clear hb3 hb2 hown3
            go_wp2_with (at_builtin; refine wpList_append_own _ rfl _ _ 33 rfl w.heap.size 5 i0 (.int .u8 0) 1 1 Try.underlying33 hi hz0 hz1 hz2 rfl (by decide) _ _ _ rfl hown2' ⟨g, 0, none⟩ 4 c' ((byts (2 * a0 + 1) 4).map (Value.int .u8)) rfl (by simp [byts_len]) ?c1 ?c2 ?c3 ?c4 ?c5 ?_)
            case c1 => exact HCS.out
            case c2 => intro u hu; simp at hu; obtain ⟨x, _, rfl⟩ := hu; rfl
            case c3 => (try simp only [List.length_nil]); unfold maxLen; omega
            case c4 => (try simp only [List.length_nil]); omega
            case c5 => omega
            intro v4 w4 hown4 hgrow _
            have hb4 : Below w.heap.size w w4 := (HB2.out.trans (HB3.out.mono hsz2)).grown hgrow (by omega) fun g hg => (hown2'.lt g hg).1
            have hbt : Bts w4 v4 (byts (2 * a0 + 1) 4) := own_bts (base := w.heap.size) (by rw [byts_len]; simpa using hown4)
            clear hown4 hgrow hown2' hown2
            go_wp2_with fail
            refine (get_put_is v4 (2 * a0 + 1) _ hbt (by omega) (by omega)).mono ?_
            rintro e w5 ⟨rfl, rfl⟩
            go_wp2_with fail
            refine (narrow_far a0 _ n1 n2 HF.out).mono ?_
            rintro e w5 ⟨rfl, rfl⟩
            go_wp2_with fail
            refine (wide_0 _).mono ?_
            rintro e w5 ⟨rfl, rfl⟩
            go_wp2_with fail
            refine (known_true _).mono ?_
            rintro e w6 ⟨rfl, hb6⟩
            go_wp2
            go_ret
            exact ⟨rfl, hb4.trans (hb6.mono hb4.size)⟩
          · have hd : decide (a0 < 16384) = false := by have := HF.out; simp; omega
            have hd2 : decide (-16384 ≤ a0) = true := by simp; omega
            go_enter Try.func5, Try.ntmps5
            go_wp2_with fail
            refine (small_is a0 _ n1 n2).mono ?_
            rintro e w1 ⟨rfl, rfl⟩
            go_wp2_with fail
            refine (number_of a0 _ n1 n2).mono ?_
            rintro e w1 ⟨rfl, rfl⟩
            go_wp2_with fail
            refine (named_odd a0 _ n1 n2).mono ?_
            rintro e w1 ⟨rfl, rfl⟩
            go_wp2_with (at_builtin; refine wpList_append_own_none rfl _ _ 33 rfl w.heap.size 5 i0 1 Try.underlying33 hi (.slice none 0 0) 0 [] rfl (World.ownsRow_nil _ _ _ _) rfl ?_)
            have hown2 : w.ownsRow w.heap.size 5 1 (.slice none 0 0) ([] : List Int).length (([] : List Int).map (Value.int .u8)) := World.ownsRow_nil _ _ _ _
            have hb2 : Below w.heap.size w w := Below.refl _ _
            go_wp2_with fail
            refine (put_any (2 * a0 + 1) w).mono ?_
            rintro e w3 ⟨v3, rfl, hown3, hb3⟩
            rw [byts_len] at hown3
            obtain ⟨g, c', rfl, hg⟩ := own_form4 hown3
            have hown2' : w3.ownsRow w.heap.size 5 1 (.slice none 0 0) ([] : List Int).length (([] : List Int).map (Value.int .u8)) :=
              hown2.kept (row := none) ⟨hb3.os, hb3.tape, hb3.output, hb3.size, fun i hi _ => hb3.block i hi⟩ (.inl rfl)
            have HCS := Lib.hid (hown3.cells (g := g) rfl)
            have hsz3 := hb3.size
            have hsz2 := hb2.size
            have HB3 := Lib.hid hb3
            have HB2 := Lib.hid hb2
            have HO3 := Lib.hid hown3
            clear hb3 hb2 hown3
            go_wp2_with (at_builtin; refine wpList_append_own _ rfl _ _ 33 rfl w.heap.size 5 i0 (.int .u8 0) 1 1 Try.underlying33 hi hz0 hz1 hz2 rfl (by decide) _ _ _ rfl hown2' ⟨g, 0, none⟩ 4 c' ((byts (2 * a0 + 1) 4).map (Value.int .u8)) rfl (by simp [byts_len]) ?c1 ?c2 ?c3 ?c4 ?c5 ?_)
            case c1 => exact HCS.out
            case c2 => intro u hu; simp at hu; obtain ⟨x, _, rfl⟩ := hu; rfl
            case c3 => (try simp only [List.length_nil]); unfold maxLen; omega
            case c4 => (try simp only [List.length_nil]); omega
            case c5 => omega
            intro v4 w4 hown4 hgrow _
            have hb4 : Below w.heap.size w w4 := (HB2.out.trans (HB3.out.mono hsz2)).grown hgrow (by omega) fun g hg => (hown2'.lt g hg).1
            have hbt : Bts w4 v4 (byts (2 * a0 + 1) 4) := own_bts (base := w.heap.size) (by rw [byts_len]; simpa using hown4)
            clear hown4 hgrow hown2' hown2
            go_wp2_with fail
            refine (get_put_is v4 (2 * a0 + 1) _ hbt (by omega) (by omega)).mono ?_
            rintro e w5 ⟨rfl, rfl⟩
            go_wp2_with fail
            refine (narrow_far a0 _ n1 n2 HF.out).mono ?_
            rintro e w5 ⟨rfl, rfl⟩
            go_wp2_with fail
            refine (wide_0 _).mono ?_
            rintro e w5 ⟨rfl, rfl⟩
            go_wp2_with fail
            refine (known_true _).mono ?_
            rintro e w6 ⟨rfl, hb6⟩
            go_wp2
            go_ret
            exact ⟨rfl, hb4.trans (hb6.mono hb4.size)⟩
      · have HAD := Lib.hid had
        clear had
        have hl' : ¬ (4000 : Int) < x1.length := by omega
        by_cases hf : -16384 ≤ a0 ∧ a0 ≤ 16383
        · obtain ⟨m1, m2⟩ := hf
          have m3 : a0 < 16384 := by omega
          go_enter Try.func5, Try.ntmps5
          go_wp2_with fail
          refine (small_is a0 _ n1 n2).mono ?_
          rintro e w1 ⟨rfl, rfl⟩
          go_wp2_with fail
          refine (number_of a0 _ n1 n2).mono ?_
          rintro e w1 ⟨rfl, rfl⟩
          go_wp2_with fail
          refine (named_odd a0 _ n1 n2).mono ?_
          rintro e w1 ⟨rfl, rfl⟩
          go_wp2_with (at_builtin; refine wpList_append_own _ rfl _ _ 33 rfl w.heap.size 5 i0 (.int .u8 0) 1 1 Try.underlying33 hi hz0 hz1 hz2 rfl (by decide) _ _ _ rfl (World.ownsRow_nil _ _ _ _) ad x1.length c (x1.map (Value.int .u8)) rfl (by simp) ?d1 ?d2 ?d3 ?d4 ?d5 ?_)
          case d1 => exact HAD.out
          case d2 => intro u hu; simp at hu; obtain ⟨x, _, rfl⟩ := hu; rfl
          case d3 => unfold maxLen; omega
          case d4 => omega
          case d5 => exact Nat.le_refl _
          intro v2 w2 hown2' hgrow2 _
          have hb2 : Below w.heap.size w w2 := (Below.refl _ _).grown hgrow2 (Nat.le_refl _) fun g hg => by cases hg
          have hown2 : w2.ownsRow w.heap.size 5 1 v2 x1.length (x1.map (Value.int .u8)) := by simpa using hown2'
          clear hown2' hgrow2
          go_wp2_with fail
          refine (put_any (2 * a0 + 1) w2).mono ?_
          rintro e w3 ⟨v3, rfl, hown3, hb3⟩
          rw [byts_len] at hown3
          obtain ⟨g, c', rfl, hg⟩ := own_form4 hown3
          have hown2' : w3.ownsRow w.heap.size 5 1 v2 x1.length (x1.map (Value.int .u8)) :=
            hown2.kept (row := none) ⟨hb3.os, hb3.tape, hb3.output, hb3.size, fun i hi _ => hb3.block i hi⟩ (by cases v2.ownBlock <;> simp)
          have HCS := Lib.hid (hown3.cells (g := g) rfl)
          have hsz3 := hb3.size
          have hsz2 := hb2.size
          have HB3 := Lib.hid hb3
          have HB2 := Lib.hid hb2
          have HO3 := Lib.hid hown3
          clear hb3 hb2 hown3
          go_wp2_with (at_builtin; refine wpList_append_own _ rfl _ _ 33 rfl w.heap.size 5 i0 (.int .u8 0) 1 1 Try.underlying33 hi hz0 hz1 hz2 rfl (by decide) _ _ _ rfl hown2' ⟨g, 0, none⟩ 4 c' ((byts (2 * a0 + 1) 4).map (Value.int .u8)) rfl (by simp [byts_len]) ?c1 ?c2 ?c3 ?c4 ?c5 ?_)
          case c1 => exact HCS.out
          case c2 => intro u hu; simp at hu; obtain ⟨x, _, rfl⟩ := hu; rfl
          case c3 => unfold maxLen; omega
          case c4 => omega
          case c5 => omega
          intro v4 w4 hown4 hgrow _
          have hb4 : Below w.heap.size w w4 := (HB2.out.trans (HB3.out.mono hsz2)).grown hgrow (by omega) fun g hg => (hown2'.lt g hg).1
          have hbt : Bts w4 v4 (x1 ++ byts (2 * a0 + 1) 4) := own_bts (base := w.heap.size) (by rw [List.length_append, byts_len, List.map_append]; exact hown4)
          clear hown4 hgrow hown2' hown2
          go_wp2_with fail
          refine (get_behind v4 x1 (2 * a0 + 1) _ hbt (by omega) HY.out (by omega) (by omega)).mono ?_
          rintro e w5 ⟨rfl, rfl⟩
          go_wp2_with fail
          refine (narrow_of a0 _ m1 m2).mono ?_
          rintro e w5 ⟨rfl, rfl⟩
          go_wp2_with fail
          refine (wide_of a0 _ m1 m2).mono ?_
          rintro e w5 ⟨rfl, rfl⟩
          go_wp2_with fail
          refine (known_true _).mono ?_
          rintro e w6 ⟨rfl, hb6⟩
          go_wp2
          go_ret
          exact ⟨rfl, hb4.trans (hb6.mono hb4.size)⟩
        · have HF := Lib.hid hf
          clear hf
          by_cases hlow : a0 < -16384
          · have hd : decide (-16384 ≤ a0) = false := by simp; omega
            go_enter Try.func5, Try.ntmps5
            go_wp2_with fail
            refine (small_is a0 _ n1 n2).mono ?_
            rintro e w1 ⟨rfl, rfl⟩
            go_wp2_with fail
            refine (number_of a0 _ n1 n2).mono ?_
            rintro e w1 ⟨rfl, rfl⟩
            go_wp2_with fail
            refine (named_odd a0 _ n1 n2).mono ?_
            rintro e w1 ⟨rfl, rfl⟩
            go_wp2_with (at_builtin; refine wpList_append_own _ rfl _ _ 33 rfl w.heap.size 5 i0 (.int .u8 0) 1 1 Try.underlying33 hi hz0 hz1 hz2 rfl (by decide) _ _ _ rfl (World.ownsRow_nil _ _ _ _) ad x1.length c (x1.map (Value.int .u8)) rfl (by simp) ?d1 ?d2 ?d3 ?d4 ?d5 ?_)
            case d1 => exact HAD.out
            case d2 => intro u hu; simp at hu; obtain ⟨x, _, rfl⟩ := hu; rfl
            case d3 => unfold maxLen; omega
            case d4 => omega
            case d5 => exact Nat.le_refl _
            intro v2 w2 hown2' hgrow2 _
            have hb2 : Below w.heap.size w w2 := (Below.refl _ _).grown hgrow2 (Nat.le_refl _) fun g hg => by cases hg
            have hown2 : w2.ownsRow w.heap.size 5 1 v2 x1.length (x1.map (Value.int .u8)) := by simpa using hown2'
            clear hown2' hgrow2
            go_wp2_with fail
            refine (put_any (2 * a0 + 1) w2).mono ?_
            rintro e w3 ⟨v3, rfl, hown3, hb3⟩
            rw [byts_len] at hown3
            obtain ⟨g, c', rfl, hg⟩ := own_form4 hown3
            have hown2' : w3.ownsRow w.heap.size 5 1 v2 x1.length (x1.map (Value.int .u8)) :=
              hown2.kept (row := none) ⟨hb3.os, hb3.tape, hb3.output, hb3.size, fun i hi _ => hb3.block i hi⟩ (by cases v2.ownBlock <;> simp)
            have HCS := Lib.hid (hown3.cells (g := g) rfl)
            have hsz3 := hb3.size
            have hsz2 := hb2.size
            have HB3 := Lib.hid hb3
            have HB2 := Lib.hid hb2
            have HO3 := Lib.hid hown3
            clear hb3 hb2 hown3
            go_wp2_with (at_builtin; refine wpList_append_own _ rfl _ _ 33 rfl w.heap.size 5 i0 (.int .u8 0) 1 1 Try.underlying33 hi hz0 hz1 hz2 rfl (by decide) _ _ _ rfl hown2' ⟨g, 0, none⟩ 4 c' ((byts (2 * a0 + 1) 4).map (Value.int .u8)) rfl (by simp [byts_len]) ?c1 ?c2 ?c3 ?c4 ?c5 ?_)
            case c1 => exact HCS.out
            case c2 => intro u hu; simp at hu; obtain ⟨x, _, rfl⟩ := hu; rfl
            case c3 => unfold maxLen; omega
            case c4 => omega
            case c5 => omega
            intro v4 w4 hown4 hgrow _
            have hb4 : Below w.heap.size w w4 := (HB2.out.trans (HB3.out.mono hsz2)).grown hgrow (by omega) fun g hg => (hown2'.lt g hg).1
            have hbt : Bts w4 v4 (x1 ++ byts (2 * a0 + 1) 4) := own_bts (base := w.heap.size) (by rw [List.length_append, byts_len, List.map_append]; exact hown4)
            clear hown4 hgrow hown2' hown2
            go_wp2_with fail
            refine (get_behind v4 x1 (2 * a0 + 1) _ hbt (by omega) HY.out (by omega) (by omega)).mono ?_
            rintro e w5 ⟨rfl, rfl⟩
            go_wp2_with fail
            refine (narrow_far a0 _ n1 n2 HF.out).mono ?_
            rintro e w5 ⟨rfl, rfl⟩
            go_wp2_with fail
            refine (wide_0 _).mono ?_
            rintro e w5 ⟨rfl, rfl⟩
            go_wp2_with fail
            refine (known_true _).mono ?_
            rintro e w6 ⟨rfl, hb6⟩
            go_wp2
            go_ret
            exact ⟨rfl, hb4.trans (hb6.mono hb4.size)⟩
          · have hd : decide (a0 < 16384) = false := by have := HF.out; simp; omega
            have hd2 : decide (-16384 ≤ a0) = true := by simp; omega
            go_enter Try.func5, Try.ntmps5
            go_wp2_with fail
            refine (small_is a0 _ n1 n2).mono ?_
            rintro e w1 ⟨rfl, rfl⟩
            go_wp2_with fail
            refine (number_of a0 _ n1 n2).mono ?_
            rintro e w1 ⟨rfl, rfl⟩
            go_wp2_with fail
            refine (named_odd a0 _ n1 n2).mono ?_
            rintro e w1 ⟨rfl, rfl⟩
            go_wp2_with (at_builtin; refine wpList_append_own _ rfl _ _ 33 rfl w.heap.size 5 i0 (.int .u8 0) 1 1 Try.underlying33 hi hz0 hz1 hz2 rfl (by decide) _ _ _ rfl (World.ownsRow_nil _ _ _ _) ad x1.length c (x1.map (Value.int .u8)) rfl (by simp) ?d1 ?d2 ?d3 ?d4 ?d5 ?_)
            case d1 => exact HAD.out
            case d2 => intro u hu; simp at hu; obtain ⟨x, _, rfl⟩ := hu; rfl
            case d3 => unfold maxLen; omega
            case d4 => omega
            case d5 => exact Nat.le_refl _
            intro v2 w2 hown2' hgrow2 _
            have hb2 : Below w.heap.size w w2 := (Below.refl _ _).grown hgrow2 (Nat.le_refl _) fun g hg => by cases hg
            have hown2 : w2.ownsRow w.heap.size 5 1 v2 x1.length (x1.map (Value.int .u8)) := by simpa using hown2'
            clear hown2' hgrow2
            go_wp2_with fail
            refine (put_any (2 * a0 + 1) w2).mono ?_
            rintro e w3 ⟨v3, rfl, hown3, hb3⟩
            rw [byts_len] at hown3
            obtain ⟨g, c', rfl, hg⟩ := own_form4 hown3
            have hown2' : w3.ownsRow w.heap.size 5 1 v2 x1.length (x1.map (Value.int .u8)) :=
              hown2.kept (row := none) ⟨hb3.os, hb3.tape, hb3.output, hb3.size, fun i hi _ => hb3.block i hi⟩ (by cases v2.ownBlock <;> simp)
            have HCS := Lib.hid (hown3.cells (g := g) rfl)
            have hsz3 := hb3.size
            have hsz2 := hb2.size
            have HB3 := Lib.hid hb3
            have HB2 := Lib.hid hb2
            have HO3 := Lib.hid hown3
            clear hb3 hb2 hown3
            go_wp2_with (at_builtin; refine wpList_append_own _ rfl _ _ 33 rfl w.heap.size 5 i0 (.int .u8 0) 1 1 Try.underlying33 hi hz0 hz1 hz2 rfl (by decide) _ _ _ rfl hown2' ⟨g, 0, none⟩ 4 c' ((byts (2 * a0 + 1) 4).map (Value.int .u8)) rfl (by simp [byts_len]) ?c1 ?c2 ?c3 ?c4 ?c5 ?_)
            case c1 => exact HCS.out
            case c2 => intro u hu; simp at hu; obtain ⟨x, _, rfl⟩ := hu; rfl
            case c3 => unfold maxLen; omega
            case c4 => omega
            case c5 => omega
            intro v4 w4 hown4 hgrow _
            have hb4 : Below w.heap.size w w4 := (HB2.out.trans (HB3.out.mono hsz2)).grown hgrow (by omega) fun g hg => (hown2'.lt g hg).1
            have hbt : Bts w4 v4 (x1 ++ byts (2 * a0 + 1) 4) := own_bts (base := w.heap.size) (by rw [List.length_append, byts_len, List.map_append]; exact hown4)
            clear hown4 hgrow hown2' hown2
            go_wp2_with fail
            refine (get_behind v4 x1 (2 * a0 + 1) _ hbt (by omega) HY.out (by omega) (by omega)).mono ?_
            rintro e w5 ⟨rfl, rfl⟩
            go_wp2_with fail
            refine (narrow_far a0 _ n1 n2 HF.out).mono ?_
            rintro e w5 ⟨rfl, rfl⟩
            go_wp2_with fail
            refine (wide_0 _).mono ?_
            rintro e w5 ⟨rfl, rfl⟩
            go_wp2_with fail
            refine (known_true _).mono ?_
            rintro e w6 ⟨rfl, hb6⟩
            go_wp2
            go_ret
            exact ⟨rfl, hb4.trans (hb6.mono hb4.size)⟩
  · obtain ⟨a, c, rfl, _⟩ := hb1
    have HS := Lib.hid hs
    clear hs hform hn1
    go_enter Try.func5, Try.ntmps5
    go_wp2_with (first | (go_at_call 14; refine (small_not _ _ h1 h2 HS.out).mono ?_; rintro e w1 ⟨rfl, rfl⟩) | (go_at_call 26; refine (known_true _).mono ?_; rintro e w2 ⟨rfl, hb2⟩))
    go_ret
    exact ⟨rfl, hb2⟩

set_option maxRecDepth 100000 in
theorem lifted (os : Os) (started : os.Started) (H : Type) (enc : TypeId × Value → H) :
    ReturnsInHanded {} Try.checked os 5 .any (Rows.wordBackSpec.pre6 enc Try.prog Try.f5 Rows.wordBackRow.domain false) (Rows.wordBackSpec.post enc Try.prog Try.f5 false true false false) := by
  refine returnsInHanded_of_change (C := Try.checked) Try.own started (by kernel_rfl) Try.func5
    (ChangeSpec.witness6 (enc := enc) (C := Try.checked) false ⟨#[], #[.int .i64 0, .slice none 0 0], []⟩ 8 (by kernel_rfl) (by kernel_rfl) (by kernel_rfl) (by kernel_rfl)) ?_
  intro W base args ds gs before hval0 hW _ _
  have hval : ∀ (j : Nat) t v, Try.f5.params[j]? = some t → args[j]? = some v → Value.okWide Try.prog W .any base t v := hval0
  have hW' := hW
  obtain ⟨p, q, hA0, hV, rfl, _, _⟩ := hW
  have hA : DataW.TrodAll enc Try.prog W 0 (fun _ => true) true Try.f5.params.toList args.toList ds p := hA0
  rw [Try.params5] at hA hval
  obtain ⟨v0, vs0, d0, ds0, p0, q0, hargs, rfl, rfl, h0, r0⟩ := trodAll_cons hA
  obtain ⟨v1, vs1, d1, ds1, p1, q1, rfl, rfl, rfl, h1, r1⟩ := trodAll_cons r0
  obtain ⟨rfl, rfl, rfl⟩ := trodAll_nil r1
  obtain rfl : args = #[v0, v1] := by cases args; simp_all
  obtain ⟨rfl, rfl⟩ := trodVars_none hV
  obtain ⟨a0, rfl, rfl, rfl, w0⟩ := open_int Try.underlying3 (hval 0 3 v0 rfl rfl) h0
  clear hA0 hval0
  simp only [List.append_nil, List.nil_append] at hW'
  obtain ⟨x1, hb1, hy1, _⟩ := open_bts (hval 1 33 v1 rfl rfl) h1
  have hn1 := nil_form h1
  have hlt1 : ∀ x ∈ p1, x.block < W.heap.size := fun x hx => by simpa using hW'.lt x (by simp [hx])
  refine (walk W a0 w0 v1 x1 hb1 hy1 hn1).mono fun e W' ⟨he, hg⟩ => ?_
  subst he
  exact ⟨_, rfl, _, _, _, [], _, [], hW', (trodAll_cons_mk (shut_bool Try.underlying4 _) trodAll_mk0), (trodAll_cons_mk (shut_int Try.underlying3 w0) (trodAll_cons_mk (Below.trod Try.laidOut (by kernel_rfl) (of_decide_eq_true (by kernel_rfl)) h1 hg hlt1) trodAll_mk0)), rfl, hg.frame _, fun h => by cases h⟩

theorem over : Rows.wordBackRow.holds Try.pinned (OpenSpec.ofChange Rows.wordBackSpec) :=
  OpenClaim.holds_of_wide 5 Try.f5 rfl rfl rfl rfl rfl rfl rfl ⟨rfl, rfl, rfl, rfl, rfl⟩ rfl rfl rfl rfl rfl (by kernel_rfl) Try.func5 (by kernel_rfl)
    (of_decide_eq_true (by kernel_rfl)) (by unfold Func.isWrapper; first | (rw [if_pos (by decide +kernel)]; kernel_rfl) | (rw [if_neg (by decide +kernel)]; exact ⟨rfl, rfl⟩))
    (fun os started H enc _ => lifted os started H enc)
end Go.Proofs.Yteemgmagnhkifaa.wordBack
namespace Go.Proofs.Yteemgmagnhkifaa
theorem wordBack_holds : Rows.WordBackSaid := wordBack.over
end Go.Proofs.Yteemgmagnhkifaa
