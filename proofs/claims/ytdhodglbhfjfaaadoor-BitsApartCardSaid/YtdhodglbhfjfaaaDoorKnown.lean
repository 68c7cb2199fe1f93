/- The laws' own function known returns true in every world in which math/bits' table is as its text lays it, and changes nothing that was there. -/
import Derived.Test.YtdhodglbhfjfaaaDoorFlat
namespace Go.Proofs.YtdhodglbhfjfaaaDoor
open Go.RowKit

theorem firstIs_eq {S : Nat → Bool} {n c a a' : Nat} {ok ok' : Bool} (h : FirstIs S n c a ok) (h' : FirstIs S n c a' ok') : a = a' ∧ ok = ok' := by
  rcases h with ⟨rfl, h1, h2, h3⟩ | ⟨rfl, h1, h2⟩ <;> rcases h' with ⟨rfl, k1, k2, k3⟩ | ⟨rfl, k1, k2⟩
  · refine ⟨?_, rfl⟩
    rcases Nat.lt_trichotomy a a' with h | h | h
    · obtain ⟨k, hk, hs⟩ := k3 a h
      rw [h2 k hk] at hs; cases hs
    · exact h
    · obtain ⟨k, hk, hs⟩ := h3 a' h
      rw [k2 k hk] at hs; cases hs
  · obtain ⟨k, hk, hs⟩ := k2 a h1
    rw [h2 k hk] at hs; cases hs
  · obtain ⟨k, hk, hs⟩ := h2 a' k1
    rw [k2 k hk] at hs; cases hs
  · exact ⟨by omega, rfl⟩

/-- The map of the chapter's example. -/
def exS : Nat → Bool := flipS (flipS (fun _ => false) 0 2) 3 1
theorem ex_first1 : FirstIs exS 8 1 2 true := .inl ⟨rfl, by decide, by decide, fun b hb => ⟨0, by decide, by
  match b, hb with
  | 0, _ => rfl
  | 1, _ => rfl⟩⟩
theorem ex_first2 : FirstIs exS 8 2 4 true := .inl ⟨rfl, by decide, by decide, fun b hb => by
  match b, hb with
  | 0, _ => exact ⟨0, by decide, rfl⟩
  | 1, _ => exact ⟨0, by decide, rfl⟩
  | 2, _ => exact ⟨1, by decide, rfl⟩
  | 3, _ => exact ⟨0, by decide, rfl⟩⟩
theorem ex_runs : rl (runs exS 8) = [0, 2, 3, 1] := by decide
theorem first_some {S : Nat → Bool} {n c a : Nat} {ok : Bool} (m x : Nat) (w : World) (h : MapAt w m x n S) (hT : Tab w) (hc : 1 ≤ c) (hc2 : c ≤ 9223372036854775807) (hf : FirstIs S n c a ok) :
    Calls Tryd.prog 13 #[.pointer (some ⟨m, 0, none⟩), .int .i64 c] w fun e w' => e = .returned (.tuple #[.int .i64 a, .bool ok]) ∧ ∃ d, w' = w.drewN d :=
  (first_any m x n S c w h hT hc hc2).mono fun e w' ⟨a', ok', d, he, hf', hw⟩ => by
    obtain ⟨rfl, rfl⟩ := firstIs_eq hf hf'
    exact ⟨he, d, hw⟩

theorem below_drew {B : Nat} {a w : World} (h : Below B a w) (n : Nat) : Below B a (w.drewN n) := ⟨h.os, h.tape, h.output, h.size, h.block⟩
theorem but_drewN (x : Nat) (w : World) (d : Nat) : But x w (w.drewN d) := (But.refl x w).drewN d

theorem lit4 (w : World) (a b c d : Int) : IntRow (w.alloc (.cells #[.int .i64 a, .int .i64 b, .int .i64 c, .int .i64 d] 3)) (.slice (some ⟨w.heap.size, 0, none⟩) 4 4) [a, b, c, d] :=
  ⟨_, _, rfl, .inr ⟨_, _, rfl, fun i hi => by
    have h := World.cell?_alloc_new w #[.int .i64 a, .int .i64 b, .int .i64 c, .int .i64 d] 3 i
    rw [Nat.zero_add, h]
    match i, hi with
    | 0, _ => rfl
    | 1, _ => rfl
    | 2, _ => rfl
    | 3, _ => rfl⟩⟩

set_option maxHeartbeats 2000000 in
theorem known_true (w : World) (hT : Tab w) (h0 : 0 < w.heap.size) :
    Calls Tryd.prog 8 #[] w fun e w' => e = .returned (.bool true) ∧ Below w.heap.size w w' := by
  have N8 := Lib.hid (show Calls Tryd.prog 9 #[.int .i64 8] w _ from new_yes 8 w (by decide))
  have HT := Lib.hid hT
  clear hT
  obtain ⟨m, hm⟩ : ∃ m, w.heap.size + 1 = m := ⟨_, rfl⟩
  obtain ⟨x, hx⟩ : ∃ x, w.heap.size = x := ⟨_, rfl⟩
  have HX := Lib.hid hx
  rw [hm, hx] at N8
  clear hm hx
  go_enter Tryd.func8, Tryd.ntmps8
  go_wp2_with fail
  refine N8.out.mono ?_
  rintro e w1 ⟨rfl, m1, b1⟩
  have M1 := Lib.hid m1
  have B1 := Lib.hid (show Below x w w1 from b1)
  clear m1 b1 N8
  go_wp2_with fail
  refine (show Calls Tryd.prog 14 #[.pointer (some ⟨m, 0, none⟩), .int .i64 0, .int .i64 2] w1 _ from take_yes m x 8 _ 0 2 w1 M1.out (by decide) (by decide) (by decide)).mono ?_
  rintro e w2 ⟨rfl, m2, b2⟩
  have M2 := Lib.hid m2
  have B2 := Lib.hid b2
  clear m2 b2
  go_wp2_with fail
  refine (show Calls Tryd.prog 14 #[.pointer (some ⟨m, 0, none⟩), .int .i64 3, .int .i64 1] w2 _ from take_yes m x 8 _ 3 1 w2 M2.out (by decide) (by decide) (by decide)).mono ?_
  rintro e w3 ⟨rfl, m3, b3⟩
  have M3 : Hid (MapAt w3 m x 8 exS) := m3
  have B3 : Hid (But x w1 w3) := B2.out.trans b3
  have T3 : Hid (Tab w3) := by
    have hx1 := HX.out
    have hs := B1.out.size
    exact (HT.out.below B1.out (by omega)).but B3.out (by omega) (by omega)
  clear m3 b3
  go_wp2_with fail
  refine (show Calls Tryd.prog 13 #[.pointer (some ⟨m, 0, none⟩), .int .i64 1] w3 _ from first_some m x w3 M3.out T3.out (by decide) (by decide) ex_first1).mono ?_
  rintro e w4 ⟨rfl, d4, rfl⟩
  go_wp2_with fail
  refine (show Calls Tryd.prog 13 #[.pointer (some ⟨m, 0, none⟩), .int .i64 2] (w3.drewN d4) _ from first_some m x _ (M3.out.drewN d4) T3.out (by decide) (by decide) ex_first2).mono ?_
  rintro e w5 ⟨rfl, d5, rfl⟩
  go_wp2_with fail
  refine (flat_any m x 8 exS _ ?h1 ?h2).mono ?_
  case h1 => exact M3.out.heap rfl
  case h2 => exact T3.out
  rintro e w6 ⟨v, rfl, hown, hb6⟩
  have I6 : Hid (IntRow w6 v [0, 2, 3, 1]) := by
    have h := intRow_own hown
    rw [ex_runs] at h
    exact h
  have B6 : Hid (Below w3.heap.size w3 w6) := ⟨hb6.os, hb6.tape, hb6.output, hb6.size, hb6.block⟩
  clear hown hb6
  go_wp2_with fail
  refine (sameInts_any _ _ [0, 2, 3, 1] _ ?h3 ?h4 (by decide)).mono ?_
  case h3 => exact I6.out.below ((Below.refl _ _).alloc (Nat.le_refl _) _)
  case h4 => exact lit4 _ _ _ _ _
  rintro e w7 ⟨rfl, d7, rfl⟩
  go_wp2_with fail
  refine (take_nil _ _ _).mono ?_
  rintro e w8 ⟨rfl, rfl⟩
  go_wp2_with fail
  refine (show Calls Tryd.prog 14 #[.pointer (some ⟨m, 0, none⟩), .int .i64 3, .int .i64 1] _ _ from take_full m x 8 exS 3 1 _ ?h5 (by decide) (by decide) (by decide)).mono ?_
  case h5 => exact ((M3.out.below B6.out).below ((Below.refl _ _).alloc (Nat.le_refl _) _)).heap rfl
  rintro e w9 ⟨rfl, d9, rfl⟩
  go_wp2_with fail
  go_ret
  refine ⟨rfl, ?_⟩
  have hx := HX.out
  subst hx
  have h3 := B1.out.trans (B3.out.below (Nat.le_refl _) B1.out.size)
  have h6 := h3.trans (B6.out.mono h3.size)
  exact below_drew (h6.alloc h6.size _) _
end Go.Proofs.YtdhodglbhfjfaaaDoor
