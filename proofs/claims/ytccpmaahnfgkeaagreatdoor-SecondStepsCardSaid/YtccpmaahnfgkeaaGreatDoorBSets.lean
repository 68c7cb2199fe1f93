/- Of no program: which elements are taken, as a function S of their numbers: its words of 64 bits, the next that is taken or free, runs, where there is room first. No condition but those that each statement names. -/
import Derived.Test.YtccpmaahnfgkeaaGreatDoorBPop
import Derived.Lib.TrailingZeros
namespace Go.Proofs.YtccpmaahnfgkeaaGreatDoor

/-- The number whose lowest c bits are S from a on. -/
def wdF (S : Nat → Bool) (a : Nat) : Nat → Nat
  | 0 => 0
  | c + 1 => 2 ^ c * (if S (a + c) = true then 1 else 0) + wdF S a c
theorem wdF_lt (S : Nat → Bool) (a : Nat) : ∀ c, wdF S a c < 2 ^ c
  | 0 => by simp [wdF]
  | c + 1 => by simp only [wdF]; have := wdF_lt S a c; rw [Nat.pow_succ]; split <;> omega
theorem wdF_bit (S : Nat → Bool) (a : Nat) : ∀ c k, k < c → (wdF S a c).testBit k = S (a + k)
  | 0, k, h => by omega
  | c + 1, k, h => by
    simp only [wdF]
    rw [Nat.testBit_two_pow_mul_add _ (wdF_lt S a c)]
    by_cases hk : k < c
    · rw [if_pos hk]; exact wdF_bit S a c k hk
    · obtain rfl : k = c := by omega
      rw [if_neg hk, Nat.sub_self]
      cases hs : S (a + k) <;> simp
/-- Word number j of S. -/
def wd (S : Nat → Bool) (j : Nat) : Nat := wdF S (64 * j) 64
theorem wd_lt (S : Nat → Bool) (j : Nat) : wd S j < 18446744073709551616 := wdF_lt S _ 64
theorem wd_bit (S : Nat → Bool) (j k : Nat) (h : k < 64) : (wd S j).testBit k = S (64 * j + k) := wdF_bit S _ 64 k h
theorem bit_high {x k : Nat} (hx : x < 18446744073709551616) (hk : 64 ≤ k) : x.testBit k = false :=
  Nat.testBit_lt_two_pow (Nat.lt_of_lt_of_le hx (Nat.pow_le_pow_right (by decide) hk : 2 ^ 64 ≤ 2 ^ k))
theorem eq_wd {S : Nat → Bool} {j x : Nat} (hx : x < 18446744073709551616) (h : ∀ k, k < 64 → x.testBit k = S (64 * j + k)) : x = wd S j := by
  apply Nat.eq_of_testBit_eq
  intro k
  by_cases hk : k < 64
  · rw [h k hk, wd_bit S j k hk]
  · rw [bit_high hx (by omega), bit_high (wd_lt S j) (by omega)]
theorem wd_congr {S T : Nat → Bool} {j : Nat} (h : ∀ k, k < 64 → S (64 * j + k) = T (64 * j + k)) : wd S j = wd T j :=
  eq_wd (wd_lt S j) fun k hk => by rw [wd_bit S j k hk, h k hk]
theorem wd_zero (j : Nat) : wd (fun _ => false) j = 0 := (eq_wd (by decide) (by simp)).symm

/-- Is i one of c from f on? -/
def inR (f c i : Nat) : Bool := decide (f ≤ i ∧ i < f + c)
def flipS (S : Nat → Bool) (f c : Nat) : Nat → Bool := fun i => S i ^^ inR f c i

theorem ones_wd (S : Nat → Bool) (j : Nat) : ones (wd S j) = cnt S (64 * j) 64 := cnt_congr fun k hk => by rw [Nat.zero_add, wd_bit S j k hk]

/-- Those of S among c from f on. -/
def andR (S : Nat → Bool) (f c : Nat) : Nat → Bool := fun i => S i && inR f c i

theorem cnt_andR_lo (S : Nat → Bool) (f c m : Nat) (h : m ≤ f) : cnt (andR S f c) 0 m = 0 :=
  cnt_none fun k hk => by simp [andR, inR]; omega
theorem cnt_andR_hi (S : Nat → Bool) (f c m : Nat) (h : f + c ≤ m) : cnt (andR S f c) 0 m = cnt S f c := by
  obtain ⟨d, rfl⟩ : ∃ d, m = f + c + d := ⟨m - (f + c), by omega⟩
  rw [cnt_add, cnt_add, cnt_andR_lo S f c f (Nat.le_refl _), cnt_none (c := d) (fun k hk => by simp [andR, inR])]
  rw [cnt_congr (T := S) (b := f) (c := c) (fun k hk => by simp [andR, inR, hk])]
  omega

/-- The first from i on that is taken (t) or free, or n. -/
def nxtF (S : Nat → Bool) (t : Bool) (n : Nat) : Nat → Nat → Nat
  | 0, _ => n
  | f + 1, i => if i < n then (if S i = t then i else nxtF S t n f (i + 1)) else n
def nxt (S : Nat → Bool) (t : Bool) (n i : Nat) : Nat := nxtF S t n (n - i) i
def NxtIs (S : Nat → Bool) (t : Bool) (n i j : Nat) : Prop := i ≤ j ∧ j ≤ n ∧ (∀ k, i ≤ k → k < j → S k ≠ t) ∧ (j < n → S j = t)
theorem nxtF_is (S : Nat → Bool) (t : Bool) (n : Nat) : ∀ f i, i ≤ n → n ≤ i + f → NxtIs S t n i (nxtF S t n f i)
  | 0, i, h, hf => ⟨h, Nat.le_refl _, fun k h1 h2 => by simp only [nxtF] at h2; omega, fun h => absurd h (Nat.lt_irrefl _)⟩
  | f + 1, i, h, hf => by
    simp only [nxtF]
    by_cases h1 : i < n
    · rw [if_pos h1]
      by_cases h2 : S i = t
      · rw [if_pos h2]; exact ⟨Nat.le_refl _, h, fun k _ _ => by omega, fun _ => h2⟩
      · rw [if_neg h2]
        obtain ⟨a, b, c, d⟩ := nxtF_is S t n f (i + 1) h1 (by omega)
        refine ⟨by omega, b, fun k hk hk2 => ?_, d⟩
        by_cases e : k = i
        · subst e; exact h2
        · exact c k (by omega) hk2
    · rw [if_neg h1]
      exact ⟨h, Nat.le_refl _, fun k _ _ => by omega, fun h => absurd h (Nat.lt_irrefl _)⟩
theorem nxt_is (S : Nat → Bool) (t : Bool) (n i : Nat) (h : i ≤ n) : NxtIs S t n i (nxt S t n i) := nxtF_is S t n _ i h (by omega)
theorem nxtIs_eq {S : Nat → Bool} {t : Bool} {n i j k : Nat} (a : NxtIs S t n i j) (b : NxtIs S t n i k) : j = k := by
  obtain ⟨a1, a2, a3, a4⟩ := a
  obtain ⟨b1, b2, b3, b4⟩ := b
  rcases Nat.lt_trichotomy j k with h | h | h
  · exact absurd (a4 (by omega)) (b3 j a1 h)
  · exact h
  · exact absurd (b4 (by omega)) (a3 k b1 h)
theorem nxt_eq {S : Nat → Bool} {t : Bool} {n i j : Nat} (h : NxtIs S t n i j) : nxt S t n i = j := nxtIs_eq (nxt_is S t n i (Nat.le_trans h.1 h.2.1)) h

/-- The lowest bit that is set. -/
theorem ctz_bit (x : Nat) (h0 : x ≠ 0) (hx : x < 18446744073709551616) : x.testBit (Lib.ctz 64 x) = true ∧ (∀ k, k < Lib.ctz 64 x → x.testBit k = false) ∧ Lib.ctz 64 x < 64 := by
  unfold Lib.ctz
  rw [if_neg h0]
  obtain ⟨m, hm, hk⟩ := Lib.ctzFrom_spec 64 x (by omega) hx
  generalize Lib.ctzFrom 64 x = c at hm hk
  subst hm
  refine ⟨?_, fun k hk => ?_, hk⟩
  · rw [Nat.mul_comm, Nat.testBit_mul_two_pow]; simp
  · rw [Nat.mul_comm, Nat.testBit_mul_two_pow]; simp; omega

/-- Where c are free first; at 0 and 'no' if nowhere. -/
def FirstIs (S : Nat → Bool) (n c at' : Nat) (ok : Bool) : Prop :=
  (ok = true ∧ at' + c ≤ n ∧ (∀ k, k < c → S (at' + k) = false) ∧ ∀ b, b < at' → ∃ k, k < c ∧ S (b + k) = true) ∨
  (ok = false ∧ at' = 0 ∧ ∀ b, b + c ≤ n → ∃ k, k < c ∧ S (b + k) = true)

/-- The runs from one that is taken on. -/
def runsF (S : Nat → Bool) (n : Nat) : Nat → Nat → List (Nat × Nat)
  | 0, _ => []
  | f + 1, i => if i < n then (i, nxt S false n i - i) :: runsF S n f (nxt S true n (nxt S false n i)) else []
def runs (S : Nat → Bool) (n : Nat) : List (Nat × Nat) := runsF S n n (nxt S true n 0)

theorem cnt_flip (S : Nat → Bool) (f c N : Nat) (h : cnt S f c = 0) (hN : f + c ≤ N) : cnt (flipS S f c) 0 N = cnt S 0 N + c := by
  obtain ⟨r, rfl⟩ : ∃ r, N = f + (c + r) := ⟨N - f - c, by omega⟩
  have h0 := of_cnt_none h
  rw [cnt_add (flipS S f c), cnt_add (flipS S f c), cnt_add S, cnt_add S]
  have e1 : cnt (flipS S f c) 0 f = cnt S 0 f := cnt_congr fun k hk => by
    have : inR f c (0 + k) = false := by simp [inR]; omega
    simp only [flipS, this, Bool.xor_false]
  have e2 : cnt (flipS S f c) (0 + f) c = c := cnt_all fun k hk => by
    have : inR f c (0 + f + k) = true := by simp [inR]; omega
    show (S (0 + f + k) ^^ inR f c (0 + f + k)) = true
    rw [this, Nat.zero_add, h0 k hk]; rfl
  have e3 : cnt (flipS S f c) (0 + f + c) r = cnt S (0 + f + c) r := cnt_congr fun k hk => by
    have : inR f c (0 + f + c + k) = false := by simp [inR]
    simp only [flipS, this, Bool.xor_false]
  have e4 : cnt S (0 + f) c = 0 := by rw [Nat.zero_add]; exact h
  omega
end Go.Proofs.YtccpmaahnfgkeaaGreatDoor
