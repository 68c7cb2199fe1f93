/- What word.Get and the chapter's Get return: the word that stands at a place in a row of bytes, or the error. -/
import Derived.Test.YtmaeoefimkppoaaWKnown
namespace Go.Proofs.Ytmaeoefimkppoaa.Wd
set_option maxRecDepth 1000000
open Go.RowKit

def getOk (n : Nat) (at_ : Int) : Bool := decide (0 ≤ at_ ∧ at_ + 4 ≤ n)
/-- The first k bytes from place p on, as one number. -/
def acc (xs : List Int) (p : Nat) : Nat → Int
  | 0 => 0
  | k + 1 => acc xs p k * 256 + xs.getD (p + k) 0
def sgn (n : Int) : Int := if n < 2147483648 then n else n - 4294967296
def getV (xs : List Int) (at_ : Int) : Int := if getOk xs.length at_ = true then sgn (acc xs at_.toNat 4) else 0
def getE (xs : List Int) (at_ : Int) : Int := if getOk xs.length at_ = true then 0 else 2
def Bytes (xs : List Int) : Prop := ∀ i : Nat, 0 ≤ xs.getD i 0 ∧ xs.getD i 0 ≤ 255

theorem acc_le {xs : List Int} (h : Bytes xs) (p k : Nat) : 0 ≤ acc xs p k ∧ acc xs p k < 256 ^ k := by
  induction k with
  | zero => simp [acc]
  | succ k ih =>
    have := h (p + k)
    have e : (256 : Int) ^ (k + 1) = 256 ^ k * 256 := Int.pow_succ ..
    simp only [acc]
    rw [e]
    omega

theorem or_add (x b : Int) (hx : 0 ≤ x) (hx' : x < 16777216) (hb : 0 ≤ b) (hb' : b ≤ 255) : bits .or .u32 (x * 256) b = x * 256 + b := by
  obtain ⟨m, rfl⟩ := Int.eq_ofNat_of_zero_le hx
  obtain ⟨c, rfl⟩ := Int.eq_ofNat_of_zero_le hb
  show IntKind.u32.wrap ((BitVec.ofInt 32 ((m : Int) * 256) ||| BitVec.ofInt 32 (c : Int)).toNat : Int) = _
  rw [BitVec.toNat_or, BitVec.toNat_ofInt, BitVec.toNat_ofInt, IntKind.wrap_u32]
  have e1 : ((m : Int) * 256 % (2 ^ 32 : Nat)).toNat = 2 ^ 8 * m := by omega
  have e2 : ((c : Int) % (2 ^ 32 : Nat)).toNat = c := by omega
  rw [e1, e2, ← Nat.two_pow_add_eq_or_of_lt (by omega : c < 2 ^ 8)]
  omega

theorem get_no' {xs : List Int} {at_ : Int} (h : ¬ (0 ≤ at_ ∧ at_ + 4 ≤ xs.length)) : 0 = getV xs at_ ∧ 2 = getE xs at_ := by
  have h' : getOk xs.length at_ = false := by simpa [getOk] using h
  simp [getV, getE, h']
theorem get_yes' {xs : List Int} {p : Nat} (h : p + 4 ≤ xs.length) : sgn (acc xs p 4) = getV xs p ∧ 0 = getE xs p := by
  have h' : getOk xs.length p = true := by simp [getOk]; omega
  simp [getV, getE, h']

end Go.Proofs.Ytmaeoefimkppoaa.Wd
