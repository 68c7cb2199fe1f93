/- What word.Get and the chapter's Get return: the word that stands at a place in a row of bytes, or the error. -/
import Derived.Test.YtbkojjbigilclaaWKnown
namespace Go.Proofs.Ytbkojjbigilclaa
open Go.RowKit

def getOk (n : Nat) (at_ : Int) : Bool := decide (0 ≤ at_ ∧ at_ + 4 ≤ n)
/-- The first k bytes from place p on, as one number. -/
def acc (xs : List Int) (p : Nat) : Nat → Int
  | 0 => 0
  | k + 1 => acc xs p k * 256 + xs.getD (p + k) 0
def sgn (n : Int) : Int := if n < 2147483648 then n else n - 4294967296
def getV (xs : List Int) (at_ : Int) : Int := if getOk xs.length at_ = true then sgn (acc xs at_.toNat 4) else 0
def getE (xs : List Int) (at_ : Int) : Int := if getOk xs.length at_ = true then 0 else 2
def Bytes (xs : List Int) : Prop := ∀ i : Nat, 0 ≤ xs.getD i 0 ∧ xs.getD i 0 ≤ 255

theorem acc_le {xs : List Int} (h : Bytes xs) (p k : Nat) : 0 ≤ acc xs p k ∧ acc xs p k < 256 ^ k := by
  induction k with
  | zero => simp [acc]
  | succ k ih =>
    have := h (p + k)
    have e : (256 : Int) ^ (k + 1) = 256 ^ k * 256 := Int.pow_succ ..
    simp only [acc]
    rw [e]
    omega

theorem or_add (x b : Int) (hx : 0 ≤ x) (hx' : x < 16777216) (hb : 0 ≤ b) (hb' : b ≤ 255) : bits .or .u32 (x * 256) b = x * 256 + b := by
  obtain ⟨m, rfl⟩ := Int.eq_ofNat_of_zero_le hx
  obtain ⟨c, rfl⟩ := Int.eq_ofNat_of_zero_le hb
  show IntKind.u32.wrap ((BitVec.ofInt 32 ((m : Int) * 256) ||| BitVec.ofInt 32 (c : Int)).toNat : Int) = _
  rw [BitVec.toNat_or, BitVec.toNat_ofInt, BitVec.toNat_ofInt, IntKind.wrap_u32]
  have e1 : ((m : Int) * 256 % (2 ^ 32 : Nat)).toNat = 2 ^ 8 * m := by omega
  have e2 : ((c : Int) % (2 ^ 32 : Nat)).toNat = c := by omega
  rw [e1, e2, ← Nat.two_pow_add_eq_or_of_lt (by omega : c < 2 ^ 8)]
  omega

theorem get_no' {xs : List Int} {at_ : Int} (h : ¬ (0 ≤ at_ ∧ at_ + 4 ≤ xs.length)) : 0 = getV xs at_ ∧ 2 = getE xs at_ := by
  have h' : getOk xs.length at_ = false := by simpa [getOk] using h
  simp [getV, getE, h']
theorem get_yes' {xs : List Int} {p : Nat} (h : p + 4 ≤ xs.length) : sgn (acc xs p 4) = getV xs p ∧ 0 = getE xs p := by
  have h' : getOk xs.length p = true := by simp [getOk]; omega
  simp [getV, getE, h']

set_option maxHeartbeats 800000 in
theorem get_no (v : Value) (xs : List Int) (at_ : Int) (w : World) (hb : Bts w v xs) (hl : xs.length ≤ 1000000)
    (h1 : -9223372036854775808 ≤ at_) (h2 : at_ ≤ 9223372036854775807) (h : ¬ (0 ≤ at_ ∧ at_ + 4 ≤ xs.length)) :
    Calls Try.prog 48 #[v, .int .i64 at_] w fun e w' => e = .returned (.tuple #[.int .i64 0, .int .i64 2]) ∧ w = w' := by
  obtain ⟨a, c, rfl, _⟩ := hb
  by_cases hn : at_ < 0
  · clear h
    go_enter Try.func48, Try.ntmps48
    go_wp2
    go_ret2
    exact ⟨rfl, rfl⟩
  · have hc : (xs.length : Int) - 4 < at_ := by omega
    clear h
    go_enter Try.func48, Try.ntmps48
    go_wp2
    go_ret2
    exact ⟨rfl, rfl⟩

set_option maxHeartbeats 800000 in
set_option maxRecDepth 1000000 in
theorem get_yes (v : Value) (xs : List Int) (p : Nat) (w : World) (hb : Bts w v xs) (hx : Bytes xs) (hl : xs.length ≤ 1000000) (h : p + 4 ≤ xs.length) :
    Calls Try.prog 48 #[v, .int .i64 p] w fun e w' => e = .returned (.tuple #[.int .i64 (sgn (acc xs p 4)), .int .i64 0]) ∧ w = w' := by
  obtain ⟨a, c, rfl, hb⟩ := hb
  rcases hb with rfl | ⟨b, off, rfl, hcell⟩
  · simp at h
  have HC := Lib.hid hcell
  clear hcell
  have hc : (p : Int) ≤ (xs.length : Int) - 4 := by omega
  go_enter Try.func48, Try.ntmps48
  go_wp2
  go_loop [6, 17] (fun n i => ∃ k : Nat, k ≤ 4 ∧ i = .int .i64 k ∧ n = .int .u32 (acc xs p k)) (fun _ i => 4 - (intOf i).toNat)
  case atStart => exact ⟨0, by omega, rfl, rfl⟩
  case round =>
    obtain ⟨k, hk, rfl, rfl⟩ := hrel
    have hcl : k < 4 → w.cell? ⟨b, off + (p + k), none⟩ = some (.int .u8 (xs.getD (p + k) 0)) := fun hk => HC.out _ (by omega)
    have ha := acc_le hx p k
    have hx' := hx (p + k)
    by_cases hlt : k < 4
    · have hcl' := hcl hlt
      clear hcl
      have hpow : (256 : Int) ^ k ≤ 16777216 := by
        have : k = 0 ∨ k = 1 ∨ k = 2 ∨ k = 3 := by omega
        rcases this with rfl | rfl | rfl | rfl <;> decide
      have ho := or_add (acc xs p k) (xs.getD (p + k) 0) ha.1 (by omega) hx'.1 hx'.2
      have a1 := ha.1
      have a2 : acc xs p k < 16777216 := by omega
      clear ha hpow
      have HO := Lib.hid ho
      clear ho
      go_wp2
      refine ⟨⟨k + 1, by omega, by go_num, congrArg (Value.int .u32) ?_⟩, by simp [intOf]; omega⟩
      have e : xs[p + k]?.getD 0 % 4294967296 = xs.getD (p + k) 0 := by
        have e1 : xs[p + k]?.getD 0 = xs.getD (p + k) 0 := by simp [List.getD]
        rw [e1]; omega
      rw [e, HO.out]; rfl
    · clear hcl
      have : k = 4 := by omega
      subst this
      have a1 := ha.1
      have a2 : acc xs p 4 < 4294967296 := by have := ha.2; omega
      clear ha
      go_wp2
      go_ret2
      exact ⟨ret_ii (by unfold sgn wrap64 wrap32; split <;> omega) rfl, rfl⟩

theorem get_any (v : Value) (xs : List Int) (at_ : Int) (w : World) (hb : Bts w v xs) (hx : Bytes xs) (hl : xs.length ≤ 1000000)
    (h1 : -9223372036854775808 ≤ at_) (h2 : at_ ≤ 9223372036854775807) :
    Calls Try.prog 48 #[v, .int .i64 at_] w fun e w' => e = .returned (.tuple #[.int .i64 (getV xs at_), .int .i64 (getE xs at_)]) ∧ w = w' := by
  by_cases h : 0 ≤ at_ ∧ at_ + 4 ≤ xs.length
  · obtain ⟨p, rfl⟩ := Int.eq_ofNat_of_zero_le h.1
    rw [← (get_yes' (xs := xs) (p := p) (by omega)).1, ← (get_yes' (xs := xs) (p := p) (by omega)).2]
    exact get_yes v xs p w hb hx hl (by omega)
  · rw [← (get_no' h).1, ← (get_no' h).2]
    exact get_no v xs at_ w hb hl h1 h2 h

set_option maxHeartbeats 800000 in
theorem get_ref_no (v : Value) (xs : List Int) (at_ : Int) (w : World) (hb : Bts w v xs) (hl : xs.length ≤ 1000000)
    (h1 : -9223372036854775808 ≤ at_) (h2 : at_ ≤ 9223372036854775807) (h : ¬ (0 ≤ at_ ∧ at_ + 4 ≤ xs.length)) :
    Calls Try.prog 36 #[v, .int .i64 at_] w fun e w' => e = .returned (.tuple #[.int .i64 0, .int .i64 2]) ∧ w = w' := by
  obtain ⟨a, c, rfl, _⟩ := hb
  by_cases hn : at_ < 0
  · clear h
    go_enter Try.func36, Try.ntmps36
    go_wp2
    go_ret2
    exact ⟨rfl, rfl⟩
  · have hc : (xs.length : Int) - 4 < at_ := by omega
    clear h
    by_cases h4 : xs.length < 4
    · have h4' : (xs.length : Int) < 4 := by omega
      go_enter Try.func36, Try.ntmps36
      go_wp2
      go_ret2
      exact ⟨rfl, rfl⟩
    · have h4' : ¬ (xs.length : Int) < 4 := by omega
      go_enter Try.func36, Try.ntmps36
      go_wp2
      go_ret2
      exact ⟨rfl, rfl⟩

set_option maxHeartbeats 800000 in
set_option maxRecDepth 1000000 in
theorem get_ref_yes (v : Value) (xs : List Int) (p : Nat) (w : World) (hb : Bts w v xs) (hx : Bytes xs) (hl : xs.length ≤ 1000000) (h : p + 4 ≤ xs.length) :
    Calls Try.prog 36 #[v, .int .i64 p] w fun e w' => e = .returned (.tuple #[.int .i64 (sgn (acc xs p 4)), .int .i64 0]) ∧ w = w' := by
  obtain ⟨a, c, rfl, hb⟩ := hb
  rcases hb with rfl | ⟨b, off, rfl, hcell⟩
  · simp at h
  have HC := Lib.hid hcell
  clear hcell
  have hc : (p : Int) ≤ (xs.length : Int) - 4 := by omega
  have h4 : 4 ≤ xs.length := by omega
  go_enter Try.func36, Try.ntmps36
  go_wp2
  go_loop [6, 7] (fun n i => ∃ k : Nat, k ≤ 4 ∧ i = .int .i64 k ∧ n = .int .i64 (acc xs p k)) (fun _ i => 4 - (intOf i).toNat)
  case atStart => exact ⟨0, by omega, rfl, rfl⟩
  case round =>
    obtain ⟨k, hk, rfl, rfl⟩ := hrel
    have hcl : k < 4 → w.cell? ⟨b, off + (p + k), none⟩ = some (.int .u8 (xs.getD (p + k) 0)) := fun hk => HC.out _ (by omega)
    have ha := acc_le hx p k
    have hx' := hx (p + k)
    by_cases hlt : k < 4
    · have hcl' := hcl hlt
      clear hcl
      have hpow : (256 : Int) ^ k ≤ 16777216 := by
        have : k = 0 ∨ k = 1 ∨ k = 2 ∨ k = 3 := by omega
        rcases this with rfl | rfl | rfl | rfl <;> decide
      have a1 := ha.1
      have a2 : acc xs p k < 16777216 := by omega
      clear ha hpow
      have e1 : xs[p + k]?.getD 0 = xs.getD (p + k) 0 := by simp [List.getD]
      rw [← e1] at hx' hcl'
      obtain ⟨x1, x2⟩ := hx'
      have E1 := Lib.hid e1
      clear e1
      go_wp2
      refine ⟨⟨k + 1, by omega, by go_num, congrArg (Value.int .i64) ?_⟩, by simp [intOf]; omega⟩
      show _ = acc xs p k * 256 + xs.getD (p + k) 0
      rw [← E1.out]
      first | omega | (simp only [wrap64]; omega)
    · clear hcl
      have : k = 4 := by omega
      subst this
      have a1 := ha.1
      have a2 : acc xs p 4 < 4294967296 := by have := ha.2; omega
      clear ha
      go_wp2
      all_goals go_ret2
      all_goals exact ⟨ret_ii (by unfold sgn; split <;> omega) rfl, rfl⟩

theorem get_ref (v : Value) (xs : List Int) (at_ : Int) (w : World) (hb : Bts w v xs) (hx : Bytes xs) (hl : xs.length ≤ 1000000)
    (h1 : -9223372036854775808 ≤ at_) (h2 : at_ ≤ 9223372036854775807) :
    Calls Try.prog 36 #[v, .int .i64 at_] w fun e w' => e = .returned (.tuple #[.int .i64 (getV xs at_), .int .i64 (getE xs at_)]) ∧ w = w' := by
  by_cases h : 0 ≤ at_ ∧ at_ + 4 ≤ xs.length
  · obtain ⟨p, rfl⟩ := Int.eq_ofNat_of_zero_le h.1
    rw [← (get_yes' (xs := xs) (p := p) (by omega)).1, ← (get_yes' (xs := xs) (p := p) (by omega)).2]
    exact get_ref_yes v xs p w hb hx hl (by omega)
  · rw [← (get_no' h).1, ← (get_no' h).2]
    exact get_ref_no v xs at_ w hb hl h1 h2 h
end Go.Proofs.Ytbkojjbigilclaa
