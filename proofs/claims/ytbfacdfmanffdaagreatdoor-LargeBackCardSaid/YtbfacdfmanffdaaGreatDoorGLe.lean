/- Plain facts on sums, products and what is left, for the laws of layer 13. -/
import Derived.Test.YtbfacdfmanffdaaGreatDoorGLb
namespace Go.Proofs.YtbfacdfmanffdaaGreatDoor
set_option maxRecDepth 1000000
open Go.ChangeShapes Go.WideShapes Go.ChangeAt Go.RowKit

structure Fit (O : List Int) (V : Int) : Prop where
  is : O = dig V.toNat
  val : val O = V
  right : rightB O = true
  bytes : Bytes O
  len : O.length ≤ 1000000000000
theorem fit_dig {V : Int} (h0 : 0 ≤ V) (h : V < 256 ^ 400) : Fit (dig V.toNat) V := by
  have h1 := (told_small h0 h).2.2
  have h2 := (right_len h1).1
  exact ⟨rfl, by rw [val_dig, Int.toNat_of_nonneg h0], h1, dig_bytes _, by omega⟩
theorem fit_self {A : List Int} (hb : Bytes A) (h : rightB A = true) : Fit A (val A) := by
  have h2 := (right_len h).1
  exact ⟨(right_val hb h).symm, rfl, h, hb, by omega⟩
theorem Fit.eq {A B : List Int} {V : Int} (h : Fit A V) (k : Fit B V) : A = B := h.is.trans k.is.symm
theorem add_fits {A : List Int} {Ls : List (List Int)} (ha : Bytes A) (hl : ∀ x ∈ Ls, Bytes x) (h : allR A Ls) (hV : Go.Proofs.YtbfacdfmanffdaaGreatDoor.val A + sumL Ls < 256 ^ 400) : addE A Ls = 0 ∧ Fit (addO A Ls) (Go.Proofs.YtbfacdfmanffdaaGreatDoor.val A + sumL Ls) := by
  obtain ⟨h1, h2⟩ := add_yes h
  have h0 : 0 ≤ Go.Proofs.YtbfacdfmanffdaaGreatDoor.val A + sumL Ls := by
    have := val_nonneg ha
    have := sumL_nonneg hl
    omega
  obtain ⟨h3, h4, _⟩ := told_small h0 hV
  rw [h1, h2, h3, h4]
  exact ⟨rfl, fit_dig h0 hV⟩
theorem add1_fits {A B : List Int} (ha : Bytes A) (hb : Bytes B) (ra : rightB A = true) (rb : rightB B = true) (hV : Go.Proofs.YtbfacdfmanffdaaGreatDoor.val A + Go.Proofs.YtbfacdfmanffdaaGreatDoor.val B < 256 ^ 400) : addE A [B] = 0 ∧ Fit (addO A [B]) (Go.Proofs.YtbfacdfmanffdaaGreatDoor.val A + Go.Proofs.YtbfacdfmanffdaaGreatDoor.val B) := by
  have e : sumL [B] = Go.Proofs.YtbfacdfmanffdaaGreatDoor.val B := by simp [sumL]
  have := add_fits (A := A) (Ls := [B]) ha (by simpa using hb) ⟨ra, by simpa using rb⟩ (by rw [e]; exact hV)
  rwa [e] at this
theorem add2_fits {A B C : List Int} (ha : Bytes A) (hb : Bytes B) (hc : Bytes C) (ra : rightB A = true) (rb : rightB B = true) (rc : rightB C = true) (hV : Go.Proofs.YtbfacdfmanffdaaGreatDoor.val A + Go.Proofs.YtbfacdfmanffdaaGreatDoor.val B + Go.Proofs.YtbfacdfmanffdaaGreatDoor.val C < 256 ^ 400) : addE A [B, C] = 0 ∧ Fit (addO A [B, C]) (Go.Proofs.YtbfacdfmanffdaaGreatDoor.val A + Go.Proofs.YtbfacdfmanffdaaGreatDoor.val B + Go.Proofs.YtbfacdfmanffdaaGreatDoor.val C) := by
  have e : sumL [B, C] = Go.Proofs.YtbfacdfmanffdaaGreatDoor.val B + Go.Proofs.YtbfacdfmanffdaaGreatDoor.val C := by simp [sumL]
  have := add_fits (A := A) (Ls := [B, C]) ha (by simpa using ⟨hb, hc⟩) ⟨ra, by simpa using ⟨rb, rc⟩⟩ (by rw [e]; omega)
  rw [e, ← Int.add_assoc] at this
  exact this
theorem mul_fits {A B : List Int} (ha : Bytes A) (hb : Bytes B) (ra : rightB A = true) (rb : rightB B = true) (hV : Go.Proofs.YtbfacdfmanffdaaGreatDoor.val A * Go.Proofs.YtbfacdfmanffdaaGreatDoor.val B < 256 ^ 400) : mulE A B = 0 ∧ Fit (mulO A B) (Go.Proofs.YtbfacdfmanffdaaGreatDoor.val A * Go.Proofs.YtbfacdfmanffdaaGreatDoor.val B) := by
  have h0 : 0 ≤ Go.Proofs.YtbfacdfmanffdaaGreatDoor.val A * Go.Proofs.YtbfacdfmanffdaaGreatDoor.val B := Int.mul_nonneg (val_nonneg ha) (val_nonneg hb)
  obtain ⟨h3, h4, _⟩ := told_small h0 hV
  unfold mulE mulO
  rw [if_neg (fun h => h ⟨ra, rb⟩), if_neg (fun h => h ⟨ra, rb⟩), h3, h4]
  exact ⟨rfl, fit_dig h0 hV⟩
theorem sub_fits {A B : List Int} (ha : Bytes A) (hb : Bytes B) (ra : rightB A = true) (rb : rightB B = true) (hl : Go.Proofs.YtbfacdfmanffdaaGreatDoor.val B ≤ Go.Proofs.YtbfacdfmanffdaaGreatDoor.val A) : subE A B = 0 ∧ Fit (subO A B) (Go.Proofs.YtbfacdfmanffdaaGreatDoor.val A - Go.Proofs.YtbfacdfmanffdaaGreatDoor.val B) := by
  have h1 : subE A B = 0 := by
    unfold subE
    rw [if_neg (fun h => h ⟨ra, rb⟩), if_neg (by omega)]
  have h2 := right_lt ha ra
  have h3 := val_nonneg hb
  refine ⟨h1, ?_⟩
  unfold subO
  rw [if_pos h1]
  exact fit_dig (by omega) (Int.lt_of_le_of_lt (by omega) h2)
theorem div_fits {A B : List Int} (ha : Bytes A) (hb : Bytes B) (ra : rightB A = true) (rb : rightB B = true) (hn : B ≠ []) : divE A B = 0 ∧ Fit (divQ A B) (Go.Proofs.YtbfacdfmanffdaaGreatDoor.val A / Go.Proofs.YtbfacdfmanffdaaGreatDoor.val B) ∧ Fit (divR A B) (Go.Proofs.YtbfacdfmanffdaaGreatDoor.val A % Go.Proofs.YtbfacdfmanffdaaGreatDoor.val B) ∧ 0 < Go.Proofs.YtbfacdfmanffdaaGreatDoor.val B := by
  have h1 : divE A B = 0 := by
    unfold divE
    rw [if_neg (fun h => h ⟨ra, rb⟩), if_neg hn]
  have h2 := right_lt ha ra
  have h3 := right_bare hb rb hn
  have h4 := val_nonneg ha
  have h5 := right_lt hb rb
  have h6 : Go.Proofs.YtbfacdfmanffdaaGreatDoor.val A / Go.Proofs.YtbfacdfmanffdaaGreatDoor.val B ≤ Go.Proofs.YtbfacdfmanffdaaGreatDoor.val A := Int.ediv_le_self _ h4
  have h7 := Int.ediv_nonneg h4 (Int.le_of_lt h3)
  have h8 := Int.emod_lt_of_pos (Go.Proofs.YtbfacdfmanffdaaGreatDoor.val A) h3
  have h9 := Int.emod_nonneg (Go.Proofs.YtbfacdfmanffdaaGreatDoor.val A) (Int.ne_of_gt h3)
  refine ⟨h1, ?_, ?_, h3⟩
  · unfold divQ
    rw [if_pos h1]
    exact fit_dig h7 (Int.lt_of_le_of_lt h6 h2)
  · unfold divR
    rw [if_pos h1]
    exact fit_dig h9 (Int.lt_trans h8 h5)
theorem lt_pow {A : List Int} {k : Nat} (hb : Bytes A) (hl : A.length ≤ k) : val A < 256 ^ k := Int.lt_of_lt_of_le (val_lt hb) (pow_mono hl)
theorem two_pow {k : Nat} (h : k + 1 ≤ 400) : 256 * (256 : Int) ^ k ≤ 256 ^ 400 := by
  have := pow_mono h
  rw [Int.pow_succ] at this
  omega
theorem pow_split (a b : Nat) : (256 : Int) ^ a * 256 ^ b = 256 ^ (a + b) := (Int.pow_add 256 a b).symm
theorem int_facts {n : Int} (h0 : 0 ≤ n) (h1 : n ≤ 9223372036854775807) : rightB (dig n.toNat) = true ∧ intB (dig n.toNat) = true ∧ intV (dig n.toNat) = n ∧ (dig n.toNat).length ≤ 8 ∧ ((dig n.toNat).length = 0 ↔ n = 0) := by
  have hv : val (dig n.toNat) = n := by rw [val_dig, Int.toNat_of_nonneg h0]
  have hl : (dig n.toNat).length ≤ 8 := dig_len.2 (by rw [Int.toNat_of_nonneg h0]; exact Int.lt_of_le_of_lt h1 (by decide))
  have hr : rightB (dig n.toNat) = true := right_dig (by
    rw [Int.toNat_of_nonneg h0]
    have h3 := pow_mono (show 8 ≤ 400 by decide)
    have h4 : (9223372036854775807 : Int) < 256 ^ 8 := by decide
    exact Int.lt_of_lt_of_le (Int.lt_of_le_of_lt h1 h4) h3)
  have hi : intB (dig n.toNat) = true := by
    unfold intB
    rw [hr, hv]
    simpa using h1
  refine ⟨hr, hi, by unfold intV; rw [if_pos hi, hv], hl, ?_, ?_⟩
  · intro h
    rw [List.length_eq_zero_iff] at h
    rw [h] at hv
    exact hv.symm
  · rintro rfl
    rw [show (0 : Int).toNat = 0 from rfl, dig_zero]
    rfl
theorem cmp_three (a b : Int) : (cmpV a b = -1 ∧ cmpV b a = 1 ∧ a ≠ b) ∨ (cmpV a b = 0 ∧ cmpV b a = 0 ∧ a = b) ∨ (cmpV a b = 1 ∧ cmpV b a = -1 ∧ a ≠ b) := by
  rcases Int.lt_trichotomy a b with h | rfl | h
  · exact .inl ⟨cmpV_lt h, cmpV_gt h, by omega⟩
  · exact .inr (.inl ⟨cmpV_eq a, cmpV_eq a, rfl⟩)
  · exact .inr (.inr ⟨cmpV_gt h, cmpV_lt h, by omega⟩)
theorem cmpV_add (a b c : Int) : cmpV (a + c) (b + c) = cmpV a b := by
  unfold cmpV
  simp
end Go.Proofs.YtbfacdfmanffdaaGreatDoor
