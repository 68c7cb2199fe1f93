/- What the functions Has, Taken, Take, Free and New of package bits do. No condition but those that each statement names. -/
import Derived.Test.YtkjpemgoiobeeaaDoorBNext
namespace Go.Proofs.YtkjpemgoiobeeaaDoor
open Go.RowKit

/-- What Has tells of i. -/
def hasB (S : Nat → Bool) (i : Int) : Bool := decide (0 ≤ i) && S i.toNat
theorem ret_b {a b : Bool} (h : a = b) : Ending.returned (.bool a) = .returned (.bool b) := by rw [h]

theorem bit_of (S : Nat → Bool) (q r : Nat) (hr : r < 64) : ∃ V b : Nat, (wd S q : Int) / 2 ^ r = (V : Int) ∧ bits BinOp.and IntKind.u64 (V : Int) 1 = (b : Int) ∧ ((b : Int) == 1) = S (64 * q + r) := by
  have hl : wd S q / 2 ^ r < 18446744073709551616 := Nat.lt_of_le_of_lt (Nat.div_le_self _ _) (wd_lt S q)
  refine ⟨wd S q / 2 ^ r, wd S q / 2 ^ r &&& 1, by simp, bits_and_u64_nat _ 1 hl (by decide), ?_⟩
  have hb := wd_bit S q r hr
  have e : (wd S q / 2 ^ r &&& 1) = if S (64 * q + r) = true then 1 else 0 := by
    rw [Nat.and_one_is_mod, ← hb, Nat.testBit_eq_decide_div_mod_eq]
    by_cases h1 : wd S q / 2 ^ r % 2 = 1
    · rw [if_pos (by simpa using h1), h1]
    · rw [if_neg (by simpa using h1)]; omega
  rw [e]
  cases S (64 * q + r) <;> rfl

set_option maxHeartbeats 1000000 in
theorem taken_any (m x n : Nat) (S : Nat → Bool) (w : World) (h : MapAt w m x n S) :
    Calls Tryd.prog 37 #[.pointer (some ⟨m, 0, none⟩)] w fun e w' => e = .returned (.int .i64 (cnt S 0 n)) ∧ ∃ d, w' = w.drewN d := by
  have HA := Lib.hid h
  clear h
  go_enter Tryd.func37, Tryd.ntmps37
  go_wp2_with (first | (go_at_call 39; refine (mlen_any m x n S _ HA.out).mono ?_; rintro e w' ⟨rfl, rfl⟩) | (go_at_call 50; refine (count_any m x n S 0 n _ HA.out (by omega)).mono ?_; rintro e w' ⟨rfl, d, rfl⟩))
  go_ret
  exact ⟨rfl, d, rfl⟩

set_option maxHeartbeats 1000000 in
theorem take_nil (f c : Int) (w : World) : Calls Tryd.prog 44 #[.pointer none, .int .i64 f, .int .i64 c] w fun e w' => e = .returned (.int .i64 1) ∧ w = w' := by
  go_enter Tryd.func44, Tryd.ntmps44
  go_wp2_with (go_at_call 52; refine (check_nil _ _ _).mono ?_; rintro e w' ⟨rfl, rfl⟩)
  go_ret
  exact ⟨rfl, rfl⟩

set_option maxHeartbeats 1000000 in
theorem take_no (m x n : Nat) (S : Nat → Bool) (f c : Int) (w : World) (h : MapAt w m x n S) (hf1 : -9223372036854775808 ≤ f) (hf2 : f ≤ 9223372036854775807) (hc2 : c ≤ 9223372036854775807)
    (hb : ¬ (1 ≤ c ∧ 0 ≤ f ∧ f + c ≤ n)) :
    Calls Tryd.prog 44 #[.pointer (some ⟨m, 0, none⟩), .int .i64 f, .int .i64 c] w fun e w' => e = .returned (.int .i64 2) ∧ w = w' := by
  have HC := Lib.hid (check_no m x n S f c w h hf1 hf2 hc2 hb)
  clear h hb
  go_enter Tryd.func44, Tryd.ntmps44
  go_wp2_with (go_at_call 52; refine HC.out.mono ?_; rintro e w' ⟨rfl, rfl⟩)
  go_ret
  exact ⟨rfl, rfl⟩
set_option maxHeartbeats 1000000 in
theorem free_no (m x n : Nat) (S : Nat → Bool) (f c : Int) (w : World) (h : MapAt w m x n S) (hf1 : -9223372036854775808 ≤ f) (hf2 : f ≤ 9223372036854775807) (hc2 : c ≤ 9223372036854775807)
    (hb : ¬ (1 ≤ c ∧ 0 ≤ f ∧ f + c ≤ n)) :
    Calls Tryd.prog 48 #[.pointer (some ⟨m, 0, none⟩), .int .i64 f, .int .i64 c] w fun e w' => e = .returned (.int .i64 2) ∧ w = w' := by
  have HC := Lib.hid (check_no m x n S f c w h hf1 hf2 hc2 hb)
  clear h hb
  go_enter Tryd.func48, Tryd.ntmps48
  go_wp2_with (go_at_call 52; refine HC.out.mono ?_; rintro e w' ⟨rfl, rfl⟩)
  go_ret
  exact ⟨rfl, rfl⟩

set_option maxHeartbeats 1000000 in
/-- Where all are free they are taken. -/
theorem take_yes (m x n : Nat) (S : Nat → Bool) (f c : Nat) (w : World) (h : MapAt w m x n S) (hc : 1 ≤ c) (hb : f + c ≤ n) (hS : cnt S f c = 0) :
    Calls Tryd.prog 44 #[.pointer (some ⟨m, 0, none⟩), .int .i64 f, .int .i64 c] w fun e w' => e = .returned (.int .i64 0) ∧ MapAt w' m x n (flipS S f c) ∧ But x w w' := by
  have HC := Lib.hid (check_yes m x n S f c w h hc hb)
  have HN := Lib.hid (count_any m x n S f c w h hb)
  have HF := Lib.hid (fun d => flip_any m x n S f c (w.drewN d) (h.drewN d) hb)
  rw [hS] at HN
  clear h hS
  go_enter Tryd.func44, Tryd.ntmps44
  go_wp2_with (first | (go_at_call 52; refine HC.out.mono ?_; rintro e w' ⟨rfl, rfl⟩) | (go_at_call 50; refine HN.out.mono ?_; rintro e w' ⟨rfl, d, rfl⟩) | (go_at_call 53; refine (HF.out _).mono ?_; rintro e w' ⟨rfl, hm, hbut⟩))
  go_ret
  exact ⟨rfl, hm, ((But.refl _ _).drewN d).trans hbut⟩
set_option maxHeartbeats 1000000 in
theorem take_full (m x n : Nat) (S : Nat → Bool) (f c : Nat) (w : World) (h : MapAt w m x n S) (hc : 1 ≤ c) (hb : f + c ≤ n) (hS : cnt S f c ≠ 0) :
    Calls Tryd.prog 44 #[.pointer (some ⟨m, 0, none⟩), .int .i64 f, .int .i64 c] w fun e w' => e = .returned (.int .i64 3) ∧ ∃ d, w' = w.drewN d := by
  have HC := Lib.hid (check_yes m x n S f c w h hc hb)
  have HN := Lib.hid (count_any m x n S f c w h hb)
  clear h
  generalize cnt S f c = k at HN hS
  have hk : ((k : Int) == 0) = false := by simp; omega
  clear hS
  go_enter Tryd.func44, Tryd.ntmps44
  go_wp2_with (first | (go_at_call 52; refine HC.out.mono ?_; rintro e w' ⟨rfl, rfl⟩) | (go_at_call 50; refine HN.out.mono ?_; rintro e w' ⟨rfl, d, rfl⟩))
  go_ret
  exact ⟨rfl, d, rfl⟩
set_option maxHeartbeats 1000000 in
/-- Where all are taken they are freed. -/
theorem free_yes (m x n : Nat) (S : Nat → Bool) (f c : Nat) (w : World) (h : MapAt w m x n S) (hc : 1 ≤ c) (hb : f + c ≤ n) (hS : cnt S f c = c) :
    Calls Tryd.prog 48 #[.pointer (some ⟨m, 0, none⟩), .int .i64 f, .int .i64 c] w fun e w' => e = .returned (.int .i64 0) ∧ MapAt w' m x n (flipS S f c) ∧ But x w w' := by
  have HC := Lib.hid (check_yes m x n S f c w h hc hb)
  have HN := Lib.hid (count_any m x n S f c w h hb)
  have HF := Lib.hid (fun d => flip_any m x n S f c (w.drewN d) (h.drewN d) hb)
  rw [hS] at HN
  clear h hS
  go_enter Tryd.func48, Tryd.ntmps48
  go_wp2_with (first | (go_at_call 52; refine HC.out.mono ?_; rintro e w' ⟨rfl, rfl⟩) | (go_at_call 50; refine HN.out.mono ?_; rintro e w' ⟨rfl, d, rfl⟩) | (go_at_call 53; refine (HF.out _).mono ?_; rintro e w' ⟨rfl, hm, hbut⟩))
  go_ret
  exact ⟨rfl, hm, ((But.refl _ _).drewN d).trans hbut⟩
set_option maxHeartbeats 1000000 in
theorem free_none (m x n : Nat) (S : Nat → Bool) (f c : Nat) (w : World) (h : MapAt w m x n S) (hc : 1 ≤ c) (hb : f + c ≤ n) (hS : cnt S f c ≠ c) :
    Calls Tryd.prog 48 #[.pointer (some ⟨m, 0, none⟩), .int .i64 f, .int .i64 c] w fun e w' => e = .returned (.int .i64 4) ∧ ∃ d, w' = w.drewN d := by
  have HC := Lib.hid (check_yes m x n S f c w h hc hb)
  have HN := Lib.hid (count_any m x n S f c w h hb)
  clear h
  generalize cnt S f c = k at HN hS
  have hk : ((k : Int) == c) = false := by simp; omega
  clear hS
  go_enter Tryd.func48, Tryd.ntmps48
  go_wp2_with (first | (go_at_call 52; refine HC.out.mono ?_; rintro e w' ⟨rfl, rfl⟩) | (go_at_call 50; refine HN.out.mono ?_; rintro e w' ⟨rfl, d, rfl⟩))
  go_ret
  exact ⟨rfl, d, rfl⟩
end Go.Proofs.YtkjpemgoiobeeaaDoor
