/- What the functions compare, placed of package heap do, if the sort does what it must. -/
import Derived.Test.YtgfjfpfhalblgaaHDl
import Derived.Test.YtgfjfpfhalblgaaHOp
namespace Go.Proofs.Ytgfjfpfhalblgaa
set_option maxRecDepth 1000000
open Go.ChangeShapes Go.WideShapes Go.ChangeAt Go.RowKit

theorem nan_any (x : Int) (w : World) : Calls Try.prog 48 #[.int .i64 x] w fun e w' => e = .returned (.bool false) ∧ w = w' := by
  have h : (x == x) = true := by simp
  have h2 : (x != x) = false := by simp
  go_enter Try.func48, Try.ntmps48
  go_wp2
  go_ret
  exact ⟨rfl, rfl⟩
def cmpI (x y : Int) : Int := if x < y then -1 else if y < x then 1 else 0
set_option maxHeartbeats 1000000 in
theorem cmp_any (x y : Int) (w : World) : Calls Try.prog 37 #[.int .i64 x, .int .i64 y] w fun e w' => e = .returned (.int .i64 (cmpI x y)) ∧ w = w' := by
  have HN := Lib.hid (fun (x : Int) (w : World) => nan_any x w)
  by_cases h1 : x < y
  · have hd : decide (x < y) = true := decide_eq_true h1
    have he : Hid (cmpI x y = -1) := if_pos h1
    clear h1
    go_enter Try.func37, Try.ntmps37
    go_wp2_with (go_at_call 48; refine (HN.out _ _).mono ?_; rintro e w' ⟨rfl, rfl⟩)
    go_ret
    exact ⟨by rw [he.out]; rfl, rfl⟩
  · have hd : decide (x < y) = false := decide_eq_false h1
    by_cases h2 : y < x
    · have hd2 : decide (y < x) = true := decide_eq_true h2
      have he : Hid (cmpI x y = 1) := by show _ = _; simp [cmpI, h1, h2]
      clear h1 h2
      go_enter Try.func37, Try.ntmps37
      go_wp2_with (go_at_call 48; refine (HN.out _ _).mono ?_; rintro e w' ⟨rfl, rfl⟩)
      go_ret
      exact ⟨by rw [he.out]; rfl, rfl⟩
    · have hd2 : decide (y < x) = false := decide_eq_false h2
      have he : Hid (cmpI x y = 0) := by show _ = _; simp [cmpI, h1, h2]
      clear h1 h2
      go_enter Try.func37, Try.ntmps37
      go_wp2_with (go_at_call 48; refine (HN.out _ _).mono ?_; rintro e w' ⟨rfl, rfl⟩)
      go_ret
      exact ⟨by rw [he.out]; rfl, rfl⟩

section
variable {w : World} {c : Hp} {v : Value} {n nx : Nat} {B : List (Option Bk)} {V : Nat → Int}
theorem compare_any (x y : Nat) (h : HeapM w c v n B nx V) (hx : x < B.length) (hy : y < B.length) :
    Calls Try.prog 34 #[.pointer (some ⟨c.h, 0, none⟩), .int .i64 x, .int .i64 y] w fun e w' => e = .returned (.int .i64 (cmpI (spA (look B x)) (spA (look B y)))) ∧ ∃ q, w' = w.drewN q := by
  have HN := Lib.hid (fun (x y : Int) (w : World) => cmp_any x y w)
  have d1 := h.c1
  obtain ⟨g, cap, rfl, hcap, hg1, hg2, e0, _, _⟩ := h.rows hx
  obtain ⟨g', cap', he, _, _, _, e1, _, _⟩ := h.rows hy
  injection he with q1 _ q3
  injection q1 with q1
  injection q1 with q1 _ _
  subst q1 q3
  have hx' : (x : Int) < B.length := by omega
  have hy' : (y : Int) < B.length := by omega
  have hf := h.few
  clear h
  generalize spA (look B x) = s at e0 ⊢
  generalize spA (look B y) = t at e1 ⊢
  go_enter Try.func34, Try.ntmps34
  go_wp2_with fail
  go_quiet ((go_at_call 37; exact Calls.quiet_of ((HN.out _ _ _).mono fun _ _ h => ⟨h.1, 0, h.2.symm⟩)))
  go_wp2
  go_ret
  exact ⟨rfl, _, rfl⟩
theorem sized_any (x hb : Nat) (h : HeapM w c v n B nx V) (hx : x < B.length) (hbx : w.cell? ⟨hb, 0, none⟩ = some (.pointer (some ⟨c.h, 0, none⟩))) :
    Calls Try.prog 32 #[.int .i64 x, .pointer (some ⟨hb, 0, none⟩)] w fun e w' => e = .returned (.bool (decide (spL (look B x) = 0))) ∧ w = w' := by
  have d1 := h.c1
  obtain ⟨g, cap, rfl, hcap, hg1, hg2, _, e1, _⟩ := h.rows hx
  have hx' : (x : Int) < B.length := by omega
  have hf := h.few
  clear h
  obtain ⟨t, ht⟩ : ∃ t, spL (look B x) = t := ⟨_, rfl⟩
  rw [ht] at e1 ⊢
  clear ht
  by_cases h0 : t = 0
  · have hd : (t == 0) = true := by simp [h0]
    have he : Hid (decide (t = 0) = true) := decide_eq_true h0
    clear h0
    go_enter Try.func32, Try.ntmps32
    go_wp2
    go_ret
    exact ⟨by rw [he.out]; rfl, rfl⟩
  · have hd : (t == 0) = false := by simp [h0]
    have he : Hid (decide (t = 0) = false) := decide_eq_false h0
    clear h0
    go_enter Try.func32, Try.ntmps32
    go_wp2
    go_ret
    exact ⟨by rw [he.out]; rfl, rfl⟩
end
end Go.Proofs.Ytgfjfpfhalblgaa
