/- Plain facts for package large's texts: a number in parts of sixteen decimal digits; digits with noughts ahead. -/
import Derived.Test.YtbfacdfmanffdaaGreatDoorJPa
import Derived.Lib.ItoaNum
import Derived.Lib.TrimByte
import Derived.Lib.Repeat
namespace Go.Proofs.YtbfacdfmanffdaaGreatDoor
open Go.RowKit

abbrev UU : Nat := 10000000000000000
/-- The parts of a number, the least one first. -/
def parts (n : Nat) : List Int := if n = 0 then [] else ((n % UU : Nat) : Int) :: parts (n / UU)
termination_by n
decreasing_by exact Nat.div_lt_self (by omega) (by decide)
theorem parts_zero : parts 0 = [] := by rw [parts]; simp
theorem parts_pos {n : Nat} (h : n ≠ 0) : parts n = ((n % UU : Nat) : Int) :: parts (n / UU) := by rw [parts, if_neg h]
theorem parts_get : ∀ (k n : Nat) (x : Int), (parts n)[k]? = some x → x = ((n / UU ^ k % UU : Nat) : Int)
  | k, n, x, h => by
    by_cases h0 : n = 0
    · rw [h0, parts_zero] at h; cases h
    · rw [parts_pos h0] at h
      cases k with
      | zero => injection h with h; rw [← h]; simp
      | succ k =>
        rw [List.getElem?_cons_succ] at h
        rw [parts_get k _ x h, Nat.div_div_eq_div_mul, Nat.pow_succ, Nat.mul_comm UU]
theorem parts_len (n : Nat) : n < UU ^ (parts n).length := by
  induction n using Nat.strongRecOn with
  | ind n ih =>
    by_cases h0 : n = 0
    · rw [h0, parts_zero]; decide
    · have ih := ih (n / UU) (Nat.div_lt_self (by omega) (by decide))
      rw [parts_pos h0, List.length_cons, Nat.pow_succ]
      rw [Nat.div_lt_iff_lt_mul (by decide)] at ih
      exact ih
theorem dig_fewer {n : Nat} (h : n ≠ 0) : (dig (n / UU)).length < (dig n).length := by
  have h1 : (dig n).length = (dig (n / 256)).length + 1 := by rw [dig_pos h, List.length_cons]
  have h2 : (dig (n / UU)).length ≤ (dig (n / 256)).length := by
    rw [dig_len]
    have h3 := (dig_len (n := n / 256) (k := (dig (n / 256)).length)).1 (Nat.le_refl _)
    have : n / UU ≤ n / 256 := Nat.div_le_div_left (by decide) (by decide)
    omega
  omega
/-- The lowest k decimal digits. -/
def pad : Nat → Nat → List Int
  | 0, _ => []
  | k + 1, n => pad k (n / 10) ++ [((48 + n % 10 : Nat) : Int)]
theorem pad_add (a : Nat) : ∀ b n, pad (a + b) n = pad a (n / 10 ^ b) ++ pad b n
  | 0, n => by simp [pad]
  | b + 1, n => by
    show pad (a + b) (n / 10) ++ _ = _
    rw [pad_add a b (n / 10), Nat.div_div_eq_div_mul, Nat.pow_succ, Nat.mul_comm (10 ^ b), List.append_assoc]
    rfl
theorem pad_mod : ∀ a x, pad a (x % 10 ^ a) = pad a x
  | 0, _ => rfl
  | a + 1, x => by
    have h1 : x % 10 ^ (a + 1) / 10 = x / 10 % 10 ^ a := by
      rw [Nat.pow_succ, Nat.mul_comm, Nat.mod_mul_right_div_self]
    have h2 : x % 10 ^ (a + 1) % 10 = x % 10 := Nat.mod_mod_of_dvd x ⟨10 ^ a, by rw [Nat.pow_succ, Nat.mul_comm]⟩
    unfold pad
    rw [h1, h2, pad_mod a]
theorem pad_nought : ∀ k, pad k 0 = List.replicate k 48
  | 0 => rfl
  | k + 1 => by
    show pad k (0 / 10) ++ [_] = _
    rw [Nat.zero_div, pad_nought k, List.replicate_succ']
    rfl
theorem dec_short : ∀ (k n : Nat), n < 10 ^ (k + 1) → (dec n).length ≤ k + 1
  | 0, n, h => by rw [dec_small (by simpa using h)]; simp
  | k + 1, n, h => by
    by_cases h1 : n < 10
    · rw [dec_small h1]; simp
    · rw [dec_big h1, List.length_append]
      have := dec_short k (n / 10) (by rw [Nat.pow_succ] at h; omega)
      simp
      omega
theorem pad_dec : ∀ (k n : Nat), n < 10 ^ (k + 1) → List.replicate (k + 1 - (dec n).length) 48 ++ dec n = pad (k + 1) n
  | 0, n, h => by
    have h1 : n < 10 := by simpa using h
    rw [dec_small h1]
    simp [pad]
    omega
  | k + 1, n, h => by
    by_cases h1 : n < 10
    · rw [dec_small h1]
      show _ = pad (k + 1) (n / 10) ++ [_]
      rw [show n / 10 = 0 by omega, pad_nought, show n % 10 = n by omega]
      simp
    · have ih := pad_dec k (n / 10) (by rw [Nat.pow_succ] at h; omega)
      have hl := dec_short k (n / 10) (by rw [Nat.pow_succ] at h; omega)
      show _ = pad (k + 1) (n / 10) ++ [_]
      rw [← ih, dec_big h1, List.length_append, List.length_singleton, Nat.add_sub_add_right, List.append_assoc]
theorem dec_head {n : Nat} (h : n ≠ 0) : ∃ d r, dec n = d :: r ∧ d ≠ 48 := by
  induction n using Nat.strongRecOn with
  | ind n ih =>
    by_cases h1 : n < 10
    · rw [dec_small h1]; exact ⟨_, _, rfl, by omega⟩
    · obtain ⟨d, r, e, hd⟩ := ih (n / 10) (by omega) (by omega)
      rw [dec_big h1, e]
      exact ⟨d, _, rfl, hd⟩
theorem drop_noughts : ∀ (k : Nat) (xs : List Int), (List.replicate k (48 : Int) ++ xs).dropWhile (· == 48) = xs.dropWhile (· == 48)
  | 0, _ => rfl
  | k + 1, xs => by
    rw [List.replicate_succ, List.cons_append, List.dropWhile_cons_of_pos (by decide)]
    exact drop_noughts k xs
theorem strip_pad {k n : Nat} (h : n < 10 ^ k) : (pad k n).dropWhile (· == 48) = dec' n := by
  cases k with
  | zero =>
    have : n = 0 := by simpa using h
    subst this
    rfl
  | succ k =>
    rw [← pad_dec k n h, drop_noughts]
    unfold dec'
    by_cases h0 : n = 0
    · subst h0
      rw [dec_small (by decide), if_pos rfl]
      rfl
    · obtain ⟨d, r, e, hd⟩ := dec_head h0
      rw [if_neg h0, e, List.dropWhile_cons_of_neg (by simpa using hd)]
theorem pad_digits : ∀ k n, Dec (pad k n)
  | 0, _ => fun c hc => by cases hc
  | k + 1, n => fun c hc => by
    rcases List.mem_append.1 hc with h | h
    · exact pad_digits k _ c h
    · rw [List.mem_singleton] at h; omega
theorem pad_len : ∀ k n, (pad k n).length = k
  | 0, _ => rfl
  | k + 1, n => by show (pad k (n / 10) ++ [_]).length = _; rw [List.length_append, pad_len k]; rfl
/-! As bytes. -/
abbrev by8 (n : Int) : UInt8 := UInt8.ofNat n.toNat
theorem str_data (xs : List Int) : (strOfNums xs).data.toList = xs.map by8 := by simp [strOfNums]
theorem str_of (xs : List Int) : (⟨(xs.map by8).toArray⟩ : ByteArray) = strOfNums xs := by
  apply ByteArray.ext
  simp [strOfNums]
theorem itoa_dec (n : Nat) : Lib.decDigits n = (dec n).map by8 := by
  induction n using Nat.strongRecOn with
  | ind n ih =>
    rw [Lib.decDigits]
    by_cases h : n < 10
    · rw [dif_pos h, dec_small h]
      show [UInt8.ofNat (48 + n)] = [UInt8.ofNat (((48 + n : Nat) : Int)).toNat]
      rw [Int.toNat_natCast]
    · rw [dif_neg h, dec_big h, ih (n / 10) (by omega), List.map_append]
      show _ = _ ++ [UInt8.ofNat (((48 + n % 10 : Nat) : Int)).toNat]
      rw [Int.toNat_natCast]
theorem itoa_is {x : Int} (h : 0 ≤ x) : (⟨(Lib.itoa x).toArray⟩ : ByteArray) = strOfNums (dec x.toNat) := by
  unfold Lib.itoa
  rw [if_neg (by omega), itoa_dec, str_of]
theorem trim_dec {xs : List Int} (h : Dec xs) : (⟨(Lib.trimLeftB (strOfNums xs).data.toList 48).toArray⟩ : ByteArray) = strOfNums (xs.dropWhile (· == 48)) := by
  rw [str_data]
  unfold Lib.trimLeftB
  have e : ∀ ys : List Int, Dec ys → (ys.map by8).dropWhile (· == 48) = (ys.dropWhile (· == 48)).map by8 := by
    intro ys
    induction ys with
    | nil => intro _; rfl
    | cons y ys ih =>
      intro hy
      have h1 := hy y (by simp)
      by_cases h2 : y = 48
      · rw [List.map_cons, List.dropWhile_cons_of_pos (by rw [h2]; decide), List.dropWhile_cons_of_pos (by simpa using h2)]
        exact ih fun n hn => hy n (by simp [hn])
      · have h3 : (by8 y == 48) = false := by
          rw [beq_eq_false_iff_ne]
          intro e
          have := congrArg UInt8.toNat e
          simp [by8] at this
          omega
        rw [List.map_cons, List.dropWhile_cons_of_neg (by rw [h3]; simp), List.dropWhile_cons_of_neg (by simpa using h2), List.map_cons]
  rw [e xs h, str_of]
end Go.Proofs.YtbfacdfmanffdaaGreatDoor
