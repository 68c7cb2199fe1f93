/- Numbers of many digits as plain facts: how often one goes into another, digit by digit; comparing. -/
import Derived.Test.YtbfacdfmanffdaaGreatDoorGMa
namespace Go.Proofs.YtbfacdfmanffdaaGreatDoor
open Go.RowKit

/-- How two numbers stand. -/
def cmpV (a b : Int) : Int := if a < b then -1 else if b < a then 1 else 0
theorem cmpV_lt {a b : Int} (h : a < b) : cmpV a b = -1 := by unfold cmpV; rw [if_pos h]
theorem cmpV_gt {a b : Int} (h : b < a) : cmpV a b = 1 := by unfold cmpV; rw [if_neg (by omega), if_pos h]
theorem cmpV_eq (a : Int) : cmpV a a = 0 := by unfold cmpV; rw [if_neg (by omega), if_neg (by omega)]
/-- One digit of the quotient. -/
theorem div_step {Q B R a q : Int} (hq : q * B ≤ a + 256 * R) (hq2 : a + 256 * R < (q + 1) * B) :
    (q + 256 * Q) * B + (a + 256 * R - q * B) = a + 256 * (Q * B + R) ∧ 0 ≤ a + 256 * R - q * B ∧ a + 256 * R - q * B < B := by
  rw [Int.add_mul] at hq2
  refine ⟨?_, by omega, by omega⟩
  rw [Int.add_mul, Int.mul_add, Int.mul_assoc]
  omega
/-- The digit is less than 256. -/
theorem div_digit {B R a : Int} (ha : a ≤ 255) (hR : R < B) : a + 256 * R < 256 * B := by omega
theorem div_end {A B Q R : Int} (hA : Q * B + R = A) (h0 : 0 ≤ R) (hR : R < B) (hQ : 0 ≤ Q) : Q = A / B ∧ R = A % B := by
  have hB : 0 < B := by omega
  have h1 : A / B = Q := by
    rw [← hA, Int.add_comm, Int.add_mul_ediv_right _ _ (by omega), Int.ediv_eq_zero_of_lt h0 hR]
    omega
  have h2 := Int.emod_add_mul_ediv A B
  rw [h1] at h2
  refine ⟨h1.symm, ?_⟩
  rw [Int.mul_comm] at h2
  omega
/-- Halving the digits that are left. -/
theorem half_step {low high B R : Int} (h1 : low * B ≤ R) (h2 : R < high * B) (h3 : 1 < high - low) :
    low < (low + high) / 2 ∧ (low + high) / 2 < high ∧ (((low + high) / 2) * B ≤ R ∨ R < ((low + high) / 2) * B) := ⟨by omega, by omega, by omega⟩
/-! The decimal digits. -/
def dec (n : Nat) : List Int := if n < 10 then [((48 + n : Nat) : Int)] else dec (n / 10) ++ [((48 + n % 10 : Nat) : Int)]
termination_by n
decreasing_by omega
theorem dec_small {n : Nat} (h : n < 10) : dec n = [((48 + n : Nat) : Int)] := by rw [dec, if_pos h]
theorem dec_big {n : Nat} (h : ¬ n < 10) : dec n = dec (n / 10) ++ [((48 + n % 10 : Nat) : Int)] := by rw [dec, if_neg h]
/-- What a decimal text is worth. -/
def dval : List Int → Int := List.foldl (fun v c => 10 * v + (c - 48)) 0
theorem dval_snoc (xs : List Int) (c : Int) : dval (xs ++ [c]) = 10 * dval xs + (c - 48) := by simp [dval, List.foldl_append]
theorem dval_dec (n : Nat) : dval (dec n) = n := by
  induction n using Nat.strongRecOn with
  | ind n ih =>
    by_cases h : n < 10
    · rw [dec_small h]; simp [dval]; omega
    · rw [dec_big h, dval_snoc, ih (n / 10) (by omega)]; omega
def Dec (xs : List Int) : Prop := ∀ c ∈ xs, 48 ≤ c ∧ c ≤ 57
theorem dec_dec (n : Nat) : Dec (dec n) := by
  induction n using Nat.strongRecOn with
  | ind n ih =>
    by_cases h : n < 10
    · rw [dec_small h]; intro c hc; simp at hc; omega
    · rw [dec_big h]
      intro c hc
      rcases List.mem_append.1 hc with h' | h'
      · exact ih (n / 10) (by omega) c h'
      · simp at h'; omega
theorem dec_ne (n : Nat) : dec n ≠ [] := by
  by_cases h : n < 10
  · rw [dec_small h]; simp
  · rw [dec_big h]; simp
theorem fold_nonneg : ∀ (xs : List Int) (v : Int), 0 ≤ v → Dec xs → 0 ≤ List.foldl (fun v c => 10 * v + (c - 48)) v xs
  | [], _, h, _ => h
  | c :: r, v, h, hd => by
    have h2 := hd c (by simp)
    exact fold_nonneg r _ (by show 0 ≤ 10 * v + (c - 48); omega) fun n hn => hd n (by simp [hn])
theorem dval_nonneg {xs : List Int} (h : Dec xs) : 0 ≤ dval xs := fold_nonneg xs 0 (Int.le_refl _) h
end Go.Proofs.YtbfacdfmanffdaaGreatDoor
