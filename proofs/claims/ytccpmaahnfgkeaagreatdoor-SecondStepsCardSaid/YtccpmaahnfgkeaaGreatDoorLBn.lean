/- Texts of the layers below, one behind the other: BNext BTake. -/
import Derived.Test.YtccpmaahnfgkeaaGreatDoorBFlip
import Derived.Laws.MakeOwn
import Derived.Deep.Cut

/- What the functions TrailingZeros64 of math/bits, and next, Taken, Has, Take, Free and New of package bits do. Where a search is made, math/bits' table is as its text lays it. -/
namespace Go.Proofs.YtccpmaahnfgkeaaGreatDoor
open Go.RowKit

/-- The table deBruijn64tab is in memory as its text lays it. -/
def Tab (w : World) : Prop := ∀ j, j < 64 → w.cell? ⟨0, j, none⟩ = some (.int .u8 (Lib.deBruijn64tab.getD j 0))

/-- The place in the table at which TrailingZeros64 looks: what the lowest bit that is set, times the table's number, has in its top six bits. -/
theorem tz_place {x k : Nat} (h0 : 0 < x) (hx : x < 18446744073709551616) (hk : x &&& (18446744073709551616 - x) = 2 ^ k) :
    IntKind.u64.wrap (bits BinOp.and IntKind.u64 (x : Int) (IntKind.u64.wrap (-(x : Int))) * 285870213051353865) / 288230376151711744 =
      ((2 ^ k * 285870213051353865 % 18446744073709551616 / 288230376151711744 : Nat) : Int) := by
  have minus : IntKind.u64.wrap (-(x : Int)) = ((18446744073709551616 - x : Nat) : Int) := by
    rw [IntKind.wrap_u64, Int.emod_eq_add_self_emod, Int.emod_eq_of_lt (by omega) (by omega)]
    omega
  have low := bits_and_u64_nat x (18446744073709551616 - x) hx (by omega)
  rw [minus, low, hk, IntKind.wrap_u64]
  simp only [Int.natCast_ediv, Int.natCast_emod, Int.natCast_mul, Int.cast_ofNat_Int]

set_option maxHeartbeats 1000000 in
/-- TrailingZeros64 of a word that is not 0 hands on what the table has at the place j. -/
theorem tz_looks (x j c : Nat) (w : World) (some' : ((x : Int) == 0) = false) (inside : j < 64) (small : c < 64) (cell : w.cell? ⟨0, j, none⟩ = some (.int .u8 c))
    (place : IntKind.u64.wrap (bits BinOp.and IntKind.u64 (x : Int) (IntKind.u64.wrap (-(x : Int))) * 285870213051353865) / 288230376151711744 = (j : Int)) :
    Calls Tryz.prog 110 #[.int .u64 x] w fun e w' => e = .returned (.int .i64 c) ∧ w = w' := by
  go_enter Tryz.func110, Tryz.ntmps110
  go_wp2
  go_ret
  exact ⟨rfl, rfl⟩

theorem tz_any (x : Nat) (w : World) (hx0 : x ≠ 0) (hx : x < 18446744073709551616) (hT : Tab w) :
    Calls Tryz.prog 110 #[.int .u64 x] w fun e w' => e = .returned (.int .i64 (Lib.ctz 64 x)) ∧ w = w' := by
  obtain ⟨low, small⟩ := Lib.lowest_bit 64 x hx0 hx
  obtain ⟨inside, told⟩ := Lib.deBruijn64_at _ small
  refine tz_looks x _ _ w (by simp; omega) inside small ?_ (tz_place (by omega) hx low)
  rw [hT _ inside, told]

/-- What a word tells from its bit r on: of V, the word (or what is not in it) moved down by r. -/
def WordTells (S : Nat → Bool) (t : Bool) (q r V : Nat) : Prop :=
  V < 18446744073709551616 ∧ (V = 0 → ∀ k, 64 * q + r ≤ k → k < 64 * (q + 1) → S k ≠ t) ∧
  (V ≠ 0 → S (64 * q + r + Lib.ctz 64 V) = t ∧ (∀ k, 64 * q + r ≤ k → k < 64 * q + r + Lib.ctz 64 V → S k ≠ t) ∧ Lib.ctz 64 V < 64)

theorem word_tells (S : Nat → Bool) (t : Bool) (q r Z : Nat) (hZ : Z < 18446744073709551616) (hb : ∀ k, k < 64 → Z.testBit k = (S (64 * q + k) == t)) : WordTells S t q r (Z / 2 ^ r) := by
  have hl : Z / 2 ^ r < 18446744073709551616 := Nat.lt_of_le_of_lt (Nat.div_le_self _ _) hZ
  have ht : ∀ k, (Z / 2 ^ r).testBit k = Z.testBit (r + k) := fun k => by rw [Nat.testBit_div_two_pow, Nat.add_comm]
  refine ⟨hl, fun h0 k hk1 hk2 => ?_, fun h0 => ?_⟩
  · have h1 := ht (k - 64 * q - r)
    rw [h0, Nat.zero_testBit, hb _ (by omega)] at h1
    intro e
    rw [show 64 * q + (r + (k - 64 * q - r)) = k by omega, e] at h1
    cases t <;> simp at h1
  · obtain ⟨a, b, c⟩ := ctz_bit _ h0 hl
    rw [ht] at a
    have hc : r + Lib.ctz 64 (Z / 2 ^ r) < 64 := by
      rcases Nat.lt_or_ge (r + Lib.ctz 64 (Z / 2 ^ r)) 64 with h | h
      · exact h
      · rw [bit_high hZ h] at a; cases a
    rw [hb _ hc] at a
    refine ⟨by rw [Nat.add_assoc]; simpa using a, fun k hk1 hk2 => ?_, c⟩
    have h1 := b (k - 64 * q - r) (by omega)
    rw [ht, hb _ (by omega)] at h1
    intro e
    rw [show 64 * q + (r + (k - 64 * q - r)) = k by omega, e] at h1
    cases t <;> simp at h1

theorem not_word (x : Nat) (hx : x < 18446744073709551616) : ∃ Z : Nat, bits BinOp.xor IntKind.u64 (if IntKind.u64.signed = true then -1 else IntKind.u64.max) ↑x = (Z : Int) ∧ Z < 18446744073709551616 ∧ ∀ k, k < 64 → Z.testBit k = !x.testBit k := by
  refine ⟨18446744073709551615 ^^^ x, ?_, Nat.xor_lt_two_pow (n := 64) (by decide) hx, fun k hk => ?_⟩
  · exact bits_xor_u64_nat 18446744073709551615 x (by decide) hx
  · rw [Nat.testBit_xor, show (18446744073709551615 : Nat) = 2 ^ 64 - 1 from rfl, Nat.testBit_two_pow_sub_one]
    simp [hk]

theorem tells_true (S : Nat → Bool) (q r : Nat) : ∃ V : Nat, (wd S q : Int) / 2 ^ r = (V : Int) ∧ WordTells S true q r V :=
  ⟨wd S q / 2 ^ r, by simp, word_tells S true q r _ (wd_lt S q) fun k hk => by rw [wd_bit S q k hk]; simp⟩
theorem tells_false (S : Nat → Bool) (q r : Nat) : ∃ Z V : Nat, bits BinOp.xor IntKind.u64 (if IntKind.u64.signed = true then -1 else IntKind.u64.max) ↑(wd S q) = (Z : Int) ∧ (Z : Int) / 2 ^ r = (V : Int) ∧ WordTells S false q r V := by
  obtain ⟨Z, h1, h2, h3⟩ := not_word (wd S q) (wd_lt S q)
  exact ⟨Z, Z / 2 ^ r, h1, by simp, word_tells S false q r _ h2 fun k hk => by rw [h3 k hk, wd_bit S q k hk]; simp⟩

theorem nxt_found {S : Nat → Bool} {t : Bool} {n i0 j c : Nat} (hi : i0 ≤ j) (hj : j < n) (ho : ∀ i, n ≤ i → S i = false) (h3 : ∀ k, i0 ≤ k → k < j → k < n → S k ≠ t)
    (h4 : S (j + c) = t) (h5 : ∀ k, j ≤ k → k < j + c → S k ≠ t) : j + c = nxt S t n i0 := by
  have hle : j + c ≤ n := by
    rcases Nat.lt_or_ge n (j + c) with h | h
    · have h6 := h5 n (by omega) h
      rw [ho n (Nat.le_refl _)] at h6
      rw [ho (j + c) (by omega)] at h4
      exact absurd h4 h6
    · exact h
  refine (nxt_eq ⟨by omega, hle, fun k hk1 hk2 => ?_, fun _ => h4⟩).symm
  rcases Nat.lt_or_ge k j with h | h
  · exact h3 k hk1 h (by omega)
  · exact h5 k h hk2

set_option maxHeartbeats 1000000 in
theorem next_any (m x n : Nat) (S : Nat → Bool) (t : Bool) (i0 : Nat) (w : World) (h : MapAt w m x n S) (hT : Tab w) (hi : i0 ≤ n) :
    Calls Tryz.prog 85 #[.pointer (some ⟨m, 0, none⟩), .int .i64 i0, .bool t] w fun e w' => e = .returned (.int .i64 (nxt S t n i0)) ∧ w = w' := by
  have hs := h.small
  have HA := Lib.hid h
  have HT := Lib.hid hT
  obtain ⟨L, hl1, hl2, hrow, hword⟩ := h.open
  have HW := Lib.hid hword
  clear hT hword h
  go_enter Tryz.func85, Tryz.ntmps85
  go_wp2
  go_loop [1] (fun i => ∃ j : Nat, i = .int .i64 j ∧ i0 ≤ j ∧ j < n + 64 ∧ ∀ k, i0 ≤ k → k < j → k < n → S k ≠ t) (fun i => 70000 - (intOf i).toNat)
  case atStart => exact ⟨i0, rfl, Nat.le_refl _, by omega, fun k _ _ => by omega⟩
  case round =>
    obtain ⟨j, rfl, hj1, hj2, hj3⟩ := hrel
    have H3 := Lib.hid hj3
    clear hj3
    by_cases hlt : j < n
    · obtain ⟨q, hq⟩ : ∃ q, j / 64 = q := ⟨_, rfl⟩
      obtain ⟨r, hr⟩ : ∃ r, j % 64 = r := ⟨_, rfl⟩
      have hwq := HW.out q (by omega)
      have hqL : (q : Int) < L := by omega
      have hq0 : q ≤ 1024 := by omega
      have hr64 : r < 64 := by omega
      have hqi : (j : Int) / 64 = q := by omega
      have hri : (j : Int) % 64 = r := by omega
      have HJ : Hid (j = 64 * q + r) := by show j = 64 * q + r; omega
      clear hq hr
      cases t
      · obtain ⟨Z, V, hZ, hV, hv⟩ := tells_false S q r
        have HV := Lib.hid hv
        generalize wd S q = X at hwq hZ
        clear hv
        by_cases hv : V = 0
        · have hv0 := HV.out.2.1 hv
          have HV0 := Lib.hid hv0
          subst hv
          clear hv0
          go_wp2_with (go_at_call 83; refine (mlen_any m x n S _ HA.out).mono ?_; rintro e w' ⟨rfl, rfl⟩)
          go_round
          case rel => exact ⟨(q + 1) * 64, by go_num, by have := HJ.out; omega, by have := HJ.out; omega, fun k h1 h2 h3 => by
            rcases Nat.lt_or_ge k j with h | h
            · exact H3.out k h1 h h3
            · have := HJ.out; exact HV0.out k (by omega) (by omega)⟩
          case measure => have := HJ.out; simp [intOf]; omega
        · obtain ⟨v1, v2, v3⟩ := HV.out.2.2 hv
          have hvl := HV.out.1
          have HC := Lib.hid (tz_any V w hv hvl HT.out)
          have HN : Hid (j + Lib.ctz 64 V = nxt S false n i0) := nxt_found hj1 hlt (fun i hi => HA.out.out i hi) H3.out (by rw [HJ.out]; exact v1) (by rw [HJ.out]; exact v2)
          have hv' : ((V : Int) == 0) = false := by simp; omega
          clear v1 v2 hvl hv
          generalize Lib.ctz 64 V = c at v3 HC HN
          go_wp2_with (first | (go_at_call 83; refine (mlen_any m x n S _ HA.out).mono ?_; rintro e w' ⟨rfl, rfl⟩) | (go_at_call 110; refine HC.out.mono ?_; rintro e w' ⟨rfl, rfl⟩))
          go_ret
          exact ⟨congrArg (fun k : Int => Ending.returned (.int .i64 k)) (by have := HN.out; omega), rfl⟩
      · obtain ⟨V, hV, hv⟩ := tells_true S q r
        have HV := Lib.hid hv
        generalize wd S q = X at hwq hV
        clear hv
        by_cases hv : V = 0
        · have hv0 := HV.out.2.1 hv
          have HV0 := Lib.hid hv0
          subst hv
          clear hv0
          go_wp2_with (go_at_call 83; refine (mlen_any m x n S _ HA.out).mono ?_; rintro e w' ⟨rfl, rfl⟩)
          go_round
          case rel => exact ⟨(q + 1) * 64, by go_num, by have := HJ.out; omega, by have := HJ.out; omega, fun k h1 h2 h3 => by
            rcases Nat.lt_or_ge k j with h | h
            · exact H3.out k h1 h h3
            · have := HJ.out; exact HV0.out k (by omega) (by omega)⟩
          case measure => have := HJ.out; simp [intOf]; omega
        · obtain ⟨v1, v2, v3⟩ := HV.out.2.2 hv
          have hvl := HV.out.1
          have HC := Lib.hid (tz_any V w hv hvl HT.out)
          have HN : Hid (j + Lib.ctz 64 V = nxt S true n i0) := nxt_found hj1 hlt (fun i hi => HA.out.out i hi) H3.out (by rw [HJ.out]; exact v1) (by rw [HJ.out]; exact v2)
          have hv' : ((V : Int) == 0) = false := by simp; omega
          clear v1 v2 hvl hv
          generalize Lib.ctz 64 V = c at v3 HC HN
          go_wp2_with (first | (go_at_call 83; refine (mlen_any m x n S _ HA.out).mono ?_; rintro e w' ⟨rfl, rfl⟩) | (go_at_call 110; refine HC.out.mono ?_; rintro e w' ⟨rfl, rfl⟩))
          go_ret
          exact ⟨congrArg (fun k : Int => Ending.returned (.int .i64 k)) (by have := HN.out; omega), rfl⟩
    · go_wp2_with (go_at_call 83; refine (mlen_any m x n S _ HA.out).mono ?_; rintro e w' ⟨rfl, rfl⟩)
      go_ret
      exact ⟨congrArg (fun k : Nat => Ending.returned (.int .i64 (k : Int))) (nxt_eq ⟨hi, Nat.le_refl _, fun k h1 h2 => H3.out k h1 (by omega) h2, fun h => absurd h (Nat.lt_irrefl _)⟩).symm, rfl⟩
end Go.Proofs.YtccpmaahnfgkeaaGreatDoor

/- What the functions Has, Taken, Take, Free and New of package bits do. No condition but those that each statement names. -/
namespace Go.Proofs.YtccpmaahnfgkeaaGreatDoor
open Go.RowKit

/-- What Has tells of i. -/
def hasB (S : Nat → Bool) (i : Int) : Bool := decide (0 ≤ i) && S i.toNat
theorem ret_b {a b : Bool} (h : a = b) : Ending.returned (.bool a) = .returned (.bool b) := by rw [h]

theorem bit_of (S : Nat → Bool) (q r : Nat) (hr : r < 64) : ∃ V b : Nat, (wd S q : Int) / 2 ^ r = (V : Int) ∧ bits BinOp.and IntKind.u64 (V : Int) 1 = (b : Int) ∧ ((b : Int) == 1) = S (64 * q + r) := by
  have hl : wd S q / 2 ^ r < 18446744073709551616 := Nat.lt_of_le_of_lt (Nat.div_le_self _ _) (wd_lt S q)
  refine ⟨wd S q / 2 ^ r, wd S q / 2 ^ r &&& 1, by simp, bits_and_u64_nat _ 1 hl (by decide), ?_⟩
  have hb := wd_bit S q r hr
  have e : (wd S q / 2 ^ r &&& 1) = if S (64 * q + r) = true then 1 else 0 := by
    rw [Nat.and_one_is_mod, ← hb, Nat.testBit_eq_decide_div_mod_eq]
    by_cases h1 : wd S q / 2 ^ r % 2 = 1
    · rw [if_pos (by simpa using h1), h1]
    · rw [if_neg (by simpa using h1)]; omega
  rw [e]
  cases S (64 * q + r) <;> rfl

set_option maxHeartbeats 1000000 in
theorem taken_any (m x n : Nat) (S : Nat → Bool) (w : World) (h : MapAt w m x n S) :
    Calls Tryz.prog 71 #[.pointer (some ⟨m, 0, none⟩)] w fun e w' => e = .returned (.int .i64 (cnt S 0 n)) ∧ ∃ d, w' = w.drewN d := by
  have HA := Lib.hid h
  clear h
  go_enter Tryz.func71, Tryz.ntmps71
  go_wp2_with (first | (go_at_call 83; refine (mlen_any m x n S _ HA.out).mono ?_; rintro e w' ⟨rfl, rfl⟩) | (go_at_call 95; refine (count_any m x n S 0 n _ HA.out (by omega)).mono ?_; rintro e w' ⟨rfl, d, rfl⟩))
  go_ret
  exact ⟨rfl, d, rfl⟩

set_option maxHeartbeats 1000000 in
theorem take_nil (f c : Int) (w : World) : Calls Tryz.prog 88 #[.pointer none, .int .i64 f, .int .i64 c] w fun e w' => e = .returned (.int .i64 1) ∧ w = w' := by
  go_enter Tryz.func88, Tryz.ntmps88
  go_wp2_with (go_at_call 111; refine (check_nil _ _ _).mono ?_; rintro e w' ⟨rfl, rfl⟩)
  go_ret
  exact ⟨rfl, rfl⟩

set_option maxHeartbeats 1000000 in
theorem take_no (m x n : Nat) (S : Nat → Bool) (f c : Int) (w : World) (h : MapAt w m x n S) (hf1 : -9223372036854775808 ≤ f) (hf2 : f ≤ 9223372036854775807) (hc2 : c ≤ 9223372036854775807)
    (hb : ¬ (1 ≤ c ∧ 0 ≤ f ∧ f + c ≤ n)) :
    Calls Tryz.prog 88 #[.pointer (some ⟨m, 0, none⟩), .int .i64 f, .int .i64 c] w fun e w' => e = .returned (.int .i64 2) ∧ w = w' := by
  have HC := Lib.hid (check_no m x n S f c w h hf1 hf2 hc2 hb)
  clear h hb
  go_enter Tryz.func88, Tryz.ntmps88
  go_wp2_with (go_at_call 111; refine HC.out.mono ?_; rintro e w' ⟨rfl, rfl⟩)
  go_ret
  exact ⟨rfl, rfl⟩
set_option maxHeartbeats 1000000 in
theorem free_no (m x n : Nat) (S : Nat → Bool) (f c : Int) (w : World) (h : MapAt w m x n S) (hf1 : -9223372036854775808 ≤ f) (hf2 : f ≤ 9223372036854775807) (hc2 : c ≤ 9223372036854775807)
    (hb : ¬ (1 ≤ c ∧ 0 ≤ f ∧ f + c ≤ n)) :
    Calls Tryz.prog 93 #[.pointer (some ⟨m, 0, none⟩), .int .i64 f, .int .i64 c] w fun e w' => e = .returned (.int .i64 2) ∧ w = w' := by
  have HC := Lib.hid (check_no m x n S f c w h hf1 hf2 hc2 hb)
  clear h hb
  go_enter Tryz.func93, Tryz.ntmps93
  go_wp2_with (go_at_call 111; refine HC.out.mono ?_; rintro e w' ⟨rfl, rfl⟩)
  go_ret
  exact ⟨rfl, rfl⟩

set_option maxHeartbeats 1000000 in
/-- Where all are free they are taken. -/
theorem take_yes (m x n : Nat) (S : Nat → Bool) (f c : Nat) (w : World) (h : MapAt w m x n S) (hc : 1 ≤ c) (hb : f + c ≤ n) (hS : cnt S f c = 0) :
    Calls Tryz.prog 88 #[.pointer (some ⟨m, 0, none⟩), .int .i64 f, .int .i64 c] w fun e w' => e = .returned (.int .i64 0) ∧ MapAt w' m x n (flipS S f c) ∧ But x w w' := by
  have HC := Lib.hid (check_yes m x n S f c w h hc hb)
  have HN := Lib.hid (count_any m x n S f c w h hb)
  have HF := Lib.hid (fun d => flip_any m x n S f c (w.drewN d) (h.drewN d) hb)
  rw [hS] at HN
  clear h hS
  go_enter Tryz.func88, Tryz.ntmps88
  go_wp2_with (first | (go_at_call 111; refine HC.out.mono ?_; rintro e w' ⟨rfl, rfl⟩) | (go_at_call 95; refine HN.out.mono ?_; rintro e w' ⟨rfl, d, rfl⟩) | (go_at_call 112; refine (HF.out _).mono ?_; rintro e w' ⟨rfl, hm, hbut⟩))
  go_ret
  exact ⟨rfl, hm, ((But.refl _ _).drewN d).trans hbut⟩
set_option maxHeartbeats 1000000 in
theorem take_full (m x n : Nat) (S : Nat → Bool) (f c : Nat) (w : World) (h : MapAt w m x n S) (hc : 1 ≤ c) (hb : f + c ≤ n) (hS : cnt S f c ≠ 0) :
    Calls Tryz.prog 88 #[.pointer (some ⟨m, 0, none⟩), .int .i64 f, .int .i64 c] w fun e w' => e = .returned (.int .i64 3) ∧ ∃ d, w' = w.drewN d := by
  have HC := Lib.hid (check_yes m x n S f c w h hc hb)
  have HN := Lib.hid (count_any m x n S f c w h hb)
  clear h
  generalize cnt S f c = k at HN hS
  have hk : ((k : Int) == 0) = false := by simp; omega
  clear hS
  go_enter Tryz.func88, Tryz.ntmps88
  go_wp2_with (first | (go_at_call 111; refine HC.out.mono ?_; rintro e w' ⟨rfl, rfl⟩) | (go_at_call 95; refine HN.out.mono ?_; rintro e w' ⟨rfl, d, rfl⟩))
  go_ret
  exact ⟨rfl, d, rfl⟩
set_option maxHeartbeats 1000000 in
/-- Where all are taken they are freed. -/
theorem free_yes (m x n : Nat) (S : Nat → Bool) (f c : Nat) (w : World) (h : MapAt w m x n S) (hc : 1 ≤ c) (hb : f + c ≤ n) (hS : cnt S f c = c) :
    Calls Tryz.prog 93 #[.pointer (some ⟨m, 0, none⟩), .int .i64 f, .int .i64 c] w fun e w' => e = .returned (.int .i64 0) ∧ MapAt w' m x n (flipS S f c) ∧ But x w w' := by
  have HC := Lib.hid (check_yes m x n S f c w h hc hb)
  have HN := Lib.hid (count_any m x n S f c w h hb)
  have HF := Lib.hid (fun d => flip_any m x n S f c (w.drewN d) (h.drewN d) hb)
  rw [hS] at HN
  clear h hS
  go_enter Tryz.func93, Tryz.ntmps93
  go_wp2_with (first | (go_at_call 111; refine HC.out.mono ?_; rintro e w' ⟨rfl, rfl⟩) | (go_at_call 95; refine HN.out.mono ?_; rintro e w' ⟨rfl, d, rfl⟩) | (go_at_call 112; refine (HF.out _).mono ?_; rintro e w' ⟨rfl, hm, hbut⟩))
  go_ret
  exact ⟨rfl, hm, ((But.refl _ _).drewN d).trans hbut⟩
set_option maxHeartbeats 1000000 in
theorem free_none (m x n : Nat) (S : Nat → Bool) (f c : Nat) (w : World) (h : MapAt w m x n S) (hc : 1 ≤ c) (hb : f + c ≤ n) (hS : cnt S f c ≠ c) :
    Calls Tryz.prog 93 #[.pointer (some ⟨m, 0, none⟩), .int .i64 f, .int .i64 c] w fun e w' => e = .returned (.int .i64 4) ∧ ∃ d, w' = w.drewN d := by
  have HC := Lib.hid (check_yes m x n S f c w h hc hb)
  have HN := Lib.hid (count_any m x n S f c w h hb)
  clear h
  generalize cnt S f c = k at HN hS
  have hk : ((k : Int) == c) = false := by simp; omega
  clear hS
  go_enter Tryz.func93, Tryz.ntmps93
  go_wp2_with (first | (go_at_call 111; refine HC.out.mono ?_; rintro e w' ⟨rfl, rfl⟩) | (go_at_call 95; refine HN.out.mono ?_; rintro e w' ⟨rfl, d, rfl⟩))
  go_ret
  exact ⟨rfl, d, rfl⟩
end Go.Proofs.YtccpmaahnfgkeaaGreatDoor
