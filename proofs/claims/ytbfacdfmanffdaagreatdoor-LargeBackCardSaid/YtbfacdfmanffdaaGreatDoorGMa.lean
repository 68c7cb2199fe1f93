/- Numbers of many digits as plain facts: what bytes are worth, the digits of a number, carries. -/
import Derived.Test.YtbfacdfmanffdaaGreatDoorKBase
namespace Go.Proofs.YtbfacdfmanffdaaGreatDoor
open Go.RowKit

/-- What digits are worth, the least one first. -/
def val : List Int → Int
  | [] => 0
  | d :: r => d + 256 * val r
theorem val_nonneg : ∀ {xs : List Int}, Bytes xs → 0 ≤ val xs
  | [], _ => Int.le_refl _
  | d :: r, h => by
    have h1 := h d (by simp)
    have h2 := val_nonneg (xs := r) fun n hn => h n (by simp [hn])
    simp only [val]
    omega
theorem val_append : ∀ (xs ys : List Int), val (xs ++ ys) = val xs + 256 ^ xs.length * val ys
  | [], ys => by simp [val]
  | d :: r, ys => by
    simp only [List.cons_append, val, List.length_cons, val_append r ys, Int.pow_succ]
    rw [Int.mul_add, Int.add_assoc, Int.mul_comm (256 ^ r.length) 256, Int.mul_assoc]
theorem pow_pos256 (n : Nat) : (0 : Int) < 256 ^ n := Int.pow_pos (by decide)
theorem val_lt : ∀ {xs : List Int}, Bytes xs → val xs < 256 ^ xs.length
  | [], _ => by simp [val]
  | d :: r, h => by
    have h1 := h d (by simp)
    have h2 := val_lt (xs := r) fun n hn => h n (by simp [hn])
    simp only [val, List.length_cons, Int.pow_succ]
    omega
/-- The digits of a number. -/
def dig (n : Nat) : List Int := if n = 0 then [] else ((n % 256 : Nat) : Int) :: dig (n / 256)
termination_by n
decreasing_by omega
theorem dig_zero : dig 0 = [] := by rw [dig]; simp
theorem dig_pos {n : Nat} (h : n ≠ 0) : dig n = ((n % 256 : Nat) : Int) :: dig (n / 256) := by rw [dig, if_neg h]
theorem val_dig (n : Nat) : val (dig n) = n := by
  induction n using Nat.strongRecOn with
  | ind n ih =>
    by_cases h : n = 0
    · subst h; rw [dig_zero]; rfl
    · rw [dig_pos h]
      simp only [val, ih (n / 256) (by omega)]
      omega
theorem dig_bytes (n : Nat) : Bytes (dig n) := by
  induction n using Nat.strongRecOn with
  | ind n ih =>
    by_cases h : n = 0
    · subst h; rw [dig_zero]; intro x hx; cases hx
    · rw [dig_pos h]
      intro x hx
      rcases List.mem_cons.1 hx with rfl | hx
      · omega
      · exact ih (n / 256) (by omega) x hx
/-- No nought at the end. -/
def Bare (xs : List Int) : Prop := ∀ d, xs.getLast? = some d → d ≠ 0
theorem dig_bare (n : Nat) : Bare (dig n) := by
  induction n using Nat.strongRecOn with
  | ind n ih =>
    by_cases h : n = 0
    · subst h; rw [dig_zero]; intro d hd; cases hd
    · rw [dig_pos h]
      intro d hd
      by_cases h2 : n / 256 = 0
      · rw [h2, dig_zero] at hd
        simp at hd
        omega
      · have := dig_pos h2
        rw [this] at hd
        rw [List.getLast?_cons_cons, ← this] at hd
        exact ih (n / 256) (by omega) d hd
theorem bare_tail {d : Int} {r : List Int} (h : Bare (d :: r)) (hr : r ≠ []) : Bare r := by
  intro x hx
  obtain ⟨y, s, rfl⟩ := List.exists_cons_of_ne_nil hr
  exact h x (by rw [List.getLast?_cons_cons]; exact hx)
theorem bare_pos : ∀ {xs : List Int}, Bytes xs → Bare xs → xs ≠ [] → 0 < val xs
  | [], _, _, h => (h rfl).elim
  | [d], hb, h, _ => by
    have h1 := hb d (by simp)
    have h2 := h d (by simp)
    simp only [val]; omega
  | d :: e :: r, hb, h, _ => by
    have h1 := hb d (by simp)
    have h2 := bare_pos (xs := e :: r) (fun n hn => hb n (by simp at hn ⊢; exact .inr hn)) (bare_tail h (by simp)) (by simp)
    show 0 < d + 256 * val (e :: r)
    omega
theorem dig_val : ∀ {xs : List Int}, Bytes xs → Bare xs → dig (val xs).toNat = xs
  | [], _, _ => by show dig (0 : Int).toNat = []; simp [dig_zero]
  | d :: r, hb, h => by
    have h1 := hb d (by simp)
    have hbr : Bytes r := fun n hn => hb n (by simp [hn])
    have h0 := bare_pos hb h (by simp)
    have hn := val_nonneg hbr
    have e : val (d :: r) = d + 256 * val r := rfl
    rw [dig_pos (by omega), e]
    have e1 : (((d + 256 * val r).toNat % 256 : Nat) : Int) = d := by omega
    have e2 : (d + 256 * val r).toNat / 256 = (val r).toNat := by omega
    rw [e1, e2]
    by_cases hr : r = []
    · subst hr; show d :: dig (0 : Int).toNat = [d]; simp [dig_zero]
    · rw [dig_val hbr (bare_tail h hr)]
theorem dig_len {n k : Nat} : (dig n).length ≤ k ↔ (n : Int) < 256 ^ k := by
  induction n using Nat.strongRecOn generalizing k with
  | ind n ih =>
    by_cases h : n = 0
    · subst h
      rw [dig_zero]
      exact ⟨fun _ => pow_pos256 k, fun _ => Nat.zero_le _⟩
    · rw [dig_pos h, List.length_cons]
      cases k with
      | zero => simp; omega
      | succ k =>
        have := ih (n / 256) (by omega) (k := k)
        rw [Nat.add_le_add_iff_right, this, Int.pow_succ]
        omega
/-- Digits that are worth the same and have no noughts at the end are the same. -/
theorem bare_eq {xs ys : List Int} (h1 : Bytes xs) (h2 : Bare xs) (k1 : Bytes ys) (k2 : Bare ys) (h : val xs = val ys) : xs = ys := by
  rw [← dig_val h1 h2, ← dig_val k1 k2, h]
theorem val_take_zero {xs : List Int} {k : Nat} (h : xs[k]? = some 0) (hk : k + 1 = xs.length) : val (xs.take k) = val xs := by
  have e : xs = xs.take k ++ [0] := by
    have h1 := List.take_append_drop k xs
    obtain ⟨hl, hg⟩ := List.getElem?_eq_some_iff.1 h
    rw [List.drop_eq_getElem_cons hl, hg, List.drop_of_length_le (by omega)] at h1
    exact h1.symm
  have h2 : val (xs.take k ++ [0]) = val xs := by rw [← e]
  rw [val_append] at h2
  simpa [val] using h2

/-! Places. -/
def dgt (xs : List Int) (j : Nat) : Int := xs.getD j 0
def sumV (f : Nat → Int) : Nat → Int
  | 0 => 0
  | k + 1 => sumV f k + f k * 256 ^ k
theorem sumV_shift (f : Nat → Int) : ∀ k, sumV f (k + 1) = f 0 + 256 * sumV (fun j => f (j + 1)) k
  | 0 => by simp [sumV]
  | k + 1 => by
    have h := sumV_shift f k
    have e1 : sumV f (k + 2) = sumV f (k + 1) + f (k + 1) * 256 ^ (k + 1) := rfl
    have e2 : sumV (fun j => f (j + 1)) (k + 1) = sumV (fun j => f (j + 1)) k + f (k + 1) * 256 ^ k := rfl
    rw [e1, e2, h, Int.pow_succ, Int.mul_add, Int.add_assoc, ← Int.mul_assoc, ← Int.mul_assoc, Int.mul_comm 256 (f (k + 1)), Int.mul_comm (f (k + 1) * 256 ^ k) 256, ← Int.mul_assoc, Int.mul_comm 256 (f (k + 1))]
theorem val_sum : ∀ (xs : List Int) (k : Nat), xs.length ≤ k → val xs = sumV (dgt xs) k
  | [], k, _ => by
    have : ∀ k, sumV (dgt []) k = 0 := fun k => by
      induction k with
      | zero => rfl
      | succ k ih => simp [sumV, ih, dgt]
    rw [this]; rfl
  | d :: r, 0, h => by simp at h
  | d :: r, k + 1, h => by
    rw [sumV_shift]
    have e : (fun j => dgt (d :: r) (j + 1)) = dgt r := by funext j; simp [dgt]
    rw [e, ← val_sum r k (by simpa using h)]
    rfl
theorem sumV_lt {f : Nat → Int} (h : ∀ j, 0 ≤ f j ∧ f j ≤ 255) : ∀ k, 0 ≤ sumV f k ∧ sumV f k < 256 ^ k
  | 0 => by simp [sumV]
  | k + 1 => by
    obtain ⟨h1, h2⟩ := sumV_lt h k
    have h3 := h k
    have h4 := pow_pos256 k
    have h5 : 0 ≤ f k * 256 ^ k := Int.mul_nonneg h3.1 (Int.le_of_lt h4)
    have h6 : f k * 256 ^ k ≤ 255 * 256 ^ k := Int.mul_le_mul_of_nonneg_right h3.2 (Int.le_of_lt h4)
    simp only [sumV, Int.pow_succ]
    omega
theorem sumV_top {f g : Nat → Int} {i : Nat} : ∀ k, i < k → (∀ j, i < j → j < k → f j = g j) → sumV f k - sumV g k = sumV f (i + 1) - sumV g (i + 1)
  | 0, h, _ => by omega
  | k + 1, h, he => by
    by_cases hk : k = i
    · subst hk; rfl
    · have := sumV_top k (by omega) fun j h1 h2 => he j h1 (by omega)
      have e := he k (by omega) (by omega)
      simp only [sumV, e] at *
      omega
/-- The highest place at which they differ decides. -/
theorem sumV_less {f g : Nat → Int} (hf : ∀ j, 0 ≤ f j ∧ f j ≤ 255) (hg : ∀ j, 0 ≤ g j ∧ g j ≤ 255) {i k : Nat} (hi : i < k) (he : ∀ j, i < j → j < k → f j = g j) (hl : f i < g i) : sumV f k < sumV g k := by
  have h1 := sumV_top (f := f) (g := g) k hi he
  have h2 := sumV_lt hf i
  have h3 := sumV_lt hg i
  have h4 := pow_pos256 i
  have h5 : f i * 256 ^ i + 256 ^ i ≤ g i * 256 ^ i := by
    have : (f i + 1) * 256 ^ i ≤ g i * 256 ^ i := Int.mul_le_mul_of_nonneg_right (by omega) (Int.le_of_lt h4)
    rw [Int.add_mul, Int.one_mul] at this
    exact this
  simp only [sumV] at h1
  omega
/-! Carries. -/
/-- One place is settled: what is too much, or too little, goes to the next one. -/
theorem settle_step {V P c l rest : Int} {out : List Int} (h : val out + P * (c + (l + 256 * rest)) = V) (hP : P = 256 ^ out.length) :
    val (out ++ [(c + l) % 256]) + (P * 256) * ((c + l - (c + l) % 256) / 256 + rest) = V := by
  have e : c + l - (c + l) % 256 = 256 * ((c + l) / 256) := by omega
  have e2 : 256 * ((c + l) / 256) / 256 = (c + l) / 256 := by omega
  rw [e, e2, val_append, ← hP, ← h]
  have e3 : val [(c + l) % 256] = (c + l) % 256 := by simp [val]
  have e4 : c + (l + 256 * rest) = (c + l) % 256 + 256 * ((c + l) / 256 + rest) := by omega
  rw [e3, e4, Int.mul_add P, Int.add_assoc, Int.mul_assoc]
theorem settle_end {V P c : Int} {out : List Int} (h : val out + P * c = V) (hP : P = 256 ^ out.length) (hV : 0 ≤ V) (hb : Bytes out) (hc : c ≤ 0) : val out = V ∧ c = 0 := by
  have h1 := val_lt hb
  rw [← hP] at h1
  by_cases h0 : c = 0
  · subst h0; rw [Int.mul_zero, Int.add_zero] at h; exact ⟨h, rfl⟩
  · have hp : 0 < P := by rw [hP]; exact pow_pos256 _
    have h2 : P * c ≤ P * (-1) := Int.mul_le_mul_of_nonneg_left (by omega) (Int.le_of_lt hp)
    omega
theorem val_set : ∀ {xs : List Int} {j : Nat} (x : Int), j < xs.length → val (xs.set j (dgt xs j + x)) = val xs + x * 256 ^ j
  | [], _, _, h => by simp at h
  | d :: r, 0, x, _ => by simp [val, dgt]; omega
  | d :: r, j + 1, x, h => by
    have ih := val_set (xs := r) (j := j) x (by simpa using h)
    have e : dgt (d :: r) (j + 1) = dgt r j := by simp [dgt]
    rw [e, List.set_cons_succ]
    simp only [val, ih, Int.pow_succ]
    rw [Int.mul_add, ← Int.add_assoc, Int.mul_comm 256 (x * 256 ^ j), Int.mul_assoc]
end Go.Proofs.YtbfacdfmanffdaaGreatDoor
