/- What the scalar functions of package word, and of the document's answer, return for every int64: one Lean function each, and both Go functions give it. No condition but that the number is an int64. -/
import Derived.Test.YtmaeoefimkppoaaRows
import Derived.WalkKit
import Derived.ProofKit
import Derived.OpenShut
import Derived.Handy
import Derived.Lib.Hide
namespace Go.Proofs.Ytmaeoefimkppoaa.Wd
set_option maxRecDepth 1000000
open Go.RowKit

def smallOk (n : Int) : Bool := decide (-1073741824 ≤ n ∧ n ≤ 1073741823)
def smallV (n : Int) : Int := if smallOk n = true then 2 * n + 1 else 0
def smallE (n : Int) : Int := if smallOk n = true then 0 else 2
def numB (o : Int) : Bool := decide (o % 2 = 1 ∧ -2147483647 ≤ o ∧ o ≤ 2147483647)
def numV (o : Int) : Int := if numB o = true then o / 2 else 0
def namB (o : Int) : Bool := decide (o % 2 = 0 ∧ 2 ≤ o ∧ o ≤ 2147483646)
def namV (o : Int) : Int := if namB o = true then o / 2 else 0
def oopV (n : Int) : Int := if 1 ≤ n ∧ n ≤ 1073741823 then 2 * n else 0
def narB (o : Int) : Bool := decide (o % 2 = 1 ∧ -32767 ≤ o ∧ o ≤ 32767)
def narV (o : Int) : Int := if narB o = true then o % 65536 else 0
def widB (o : Int) : Bool := decide (o % 2 = 1 ∧ 0 ≤ o ∧ o ≤ 65535)
def widV (o : Int) : Int := if widB o = true then (if o < 32768 then o else o - 65536) else 0

theorem ret_ib {a b : Int} {x y : Bool} (h : a = b) (g : x = y) : Ending.returned (.tuple #[.int .i64 a, .bool x]) = .returned (.tuple #[.int .i64 b, .bool y]) := by rw [h, g]
theorem ret_ii {a b x y : Int} (h : a = b) (g : x = y) : Ending.returned (.tuple #[.int .i64 a, .int .i64 x]) = .returned (.tuple #[.int .i64 b, .int .i64 y]) := by rw [h, g]
theorem ret_i {a b : Int} (h : a = b) : Ending.returned (.int .i64 a) = .returned (.int .i64 b) := by rw [h]

theorem num_yes {o : Int} (a : o % 2 = 1) (b : -2147483647 ≤ o) (c : o ≤ 2147483647) : o / 2 = numV o ∧ true = numB o := by
  have h : numB o = true := by simp [numB, a, b, c]
  simp [numV, h]
theorem num_no {o : Int} (a : ¬ (o % 2 = 1 ∧ -2147483647 ≤ o ∧ o ≤ 2147483647)) : 0 = numV o ∧ false = numB o := by
  have h : numB o = false := by simpa [numB] using a
  simp [numV, h]
theorem nam_yes {o : Int} (a : o % 2 = 0) (b : 2 ≤ o) (c : o ≤ 2147483646) : o / 2 = namV o ∧ true = namB o := by
  have h : namB o = true := by simp [namB, a, b, c]
  simp [namV, h]
theorem nam_no {o : Int} (a : ¬ (o % 2 = 0 ∧ 2 ≤ o ∧ o ≤ 2147483646)) : 0 = namV o ∧ false = namB o := by
  have h : namB o = false := by simpa [namB] using a
  simp [namV, h]
theorem small_yes {n : Int} (b : -1073741824 ≤ n) (c : n ≤ 1073741823) : 2 * n + 1 = smallV n ∧ 0 = smallE n := by
  have h : smallOk n = true := by simp [smallOk, b, c]
  simp [smallV, smallE, h]
theorem small_no {n : Int} (a : ¬ (-1073741824 ≤ n ∧ n ≤ 1073741823)) : 0 = smallV n ∧ 2 = smallE n := by
  have h : smallOk n = false := by simpa [smallOk] using a
  simp [smallV, smallE, h]

theorem and_one (n : Int) : bits .and .i64 n 1 = n % 2 := by
  show IntKind.i64.wrap ((BitVec.ofInt 64 n &&& BitVec.ofInt 64 1).toNat : Int) = _
  rw [BitVec.toNat_and]
  have h1 : (BitVec.ofInt 64 1).toNat = 1 := by decide
  rw [h1, Nat.and_one_is_mod, BitVec.toNat_ofInt, IntKind.wrap_i64]
  omega

set_option maxHeartbeats 400000 in
theorem odd_any (n : Int) (w : World) :
    Calls Try.prog 75 #[.int .i64 n] w fun e w' => e = .returned (.bool (n % 2 == 1)) ∧ w = w' := by
  go_enter Try.func75, Try.ntmps75
  go_wp2
  go_ret
  exact ⟨congrArg (fun x : Int => Ending.returned (.bool (x == 1))) (and_one n), rfl⟩

set_option maxHeartbeats 400000 in
theorem number_any (o : Int) (w : World) (h1 : -9223372036854775808 ≤ o) (h2 : o ≤ 9223372036854775807) :
    Calls Try.prog 64 #[.int .i64 o] w fun e w' => e = .returned (.tuple #[.int .i64 (numV o), .bool (numB o)]) ∧ w = w' := by
  go_enter Try.func64, Try.ntmps64
  go_wp2_with (go_at_call 75; refine (odd_any _ _).mono ?_; rintro e w' ⟨rfl, rfl⟩)
  all_goals go_ret2
  all_goals first
    | exact ⟨ret_ib (num_yes (by omega) (by omega) (by omega)).1 (num_yes (by omega) (by omega) (by omega)).2, rfl⟩
    | exact ⟨ret_ib (num_no (by omega)).1 (num_no (by omega)).2, rfl⟩

theorem tmod2_even {o : Int} (h : o % 2 = 0) : o.tmod 2 = 0 := by
  rw [Int.tmod_eq_emod]; split <;> omega
theorem tmod2_odd {o : Int} (h : o % 2 = 1) : (o.tmod 2 == 0) = false := by
  rw [beq_eq_false_iff_ne, Int.tmod_eq_emod]; split <;> omega
theorem tdiv2_odd {o : Int} (h : o % 2 = 1) : (o - 1).tdiv 2 = o / 2 := by
  rw [Int.tdiv_eq_ediv]; split <;> omega

set_option maxHeartbeats 400000 in
theorem named_any (o : Int) (w : World) (h1 : -9223372036854775808 ≤ o) (h2 : o ≤ 9223372036854775807) :
    Calls Try.prog 61 #[.int .i64 o] w fun e w' => e = .returned (.tuple #[.int .i64 (namV o), .bool (namB o)]) ∧ w = w' := by
  by_cases hs : 0 ≤ o
  · by_cases hp : o % 2 = 1
    · have hb : (o % 2 == 1) = true := by simp [hp]
      go_enter Try.func61, Try.ntmps61
      go_wp2_with (go_at_call 75; refine (odd_any _ _).mono ?_; rintro e w' ⟨rfl, rfl⟩)
      all_goals go_ret2
      all_goals exact ⟨ret_ib (nam_no (by omega)).1 (nam_no (by omega)).2, rfl⟩
    · have hb : (o % 2 == 1) = false := by simp [hp]
      go_enter Try.func61, Try.ntmps61
      go_wp2_with (go_at_call 75; refine (odd_any _ _).mono ?_; rintro e w' ⟨rfl, rfl⟩)
      all_goals go_ret2
      all_goals first
        | exact ⟨ret_ib (nam_yes (by omega) (by omega) (by omega)).1 (nam_yes (by omega) (by omega) (by omega)).2, rfl⟩
        | exact ⟨ret_ib (nam_no (by omega)).1 (nam_no (by omega)).2, rfl⟩
  · have ht : o.tdiv 2 ≤ 0 := by
      have h3 : Int.sign 2 = 1 := rfl
      rw [Int.tdiv_eq_ediv]; split <;> omega
    go_enter Try.func61, Try.ntmps61
    go_wp2_with (go_at_call 75; refine (odd_any _ _).mono ?_; rintro e w' ⟨rfl, rfl⟩)
    all_goals go_ret2
    all_goals exact ⟨ret_ib (nam_no (by omega)).1 (nam_no (by omega)).2, rfl⟩

theorem tmod2_neq {o : Int} (h : o % 2 = 1) : (o.tmod 2 != 0) = true := by
  rw [bne_iff_ne, ne_eq, Int.tmod_eq_emod]; split <;> omega

set_option maxHeartbeats 400000 in
theorem named_ref (o : Int) (w : World) (h1 : -9223372036854775808 ≤ o) (h2 : o ≤ 9223372036854775807) :
    Calls Try.prog 52 #[.int .i64 o] w fun e w' => e = .returned (.tuple #[.int .i64 (namV o), .bool (namB o)]) ∧ w = w' := by
  by_cases hp : o % 2 = 0
  · have ht := tmod2_even hp
    go_enter Try.func52, Try.ntmps52
    go_wp2
    all_goals go_ret2
    all_goals first
      | exact ⟨ret_ib (nam_yes (by omega) (by omega) (by omega)).1 (nam_yes (by omega) (by omega) (by omega)).2, rfl⟩
      | exact ⟨ret_ib (nam_no (by omega)).1 (nam_no (by omega)).2, rfl⟩
  · have ht := tmod2_neq (o := o) (by omega)
    go_enter Try.func52, Try.ntmps52
    go_wp2
    all_goals go_ret2
    all_goals exact ⟨ret_ib (nam_no (by omega)).1 (nam_no (by omega)).2, rfl⟩

theorem oop_yes {n : Int} (a : 1 ≤ n) (b : n ≤ 1073741823) : 2 * n = oopV n := by simp [oopV, a, b]
theorem oop_no {n : Int} (a : ¬ (1 ≤ n ∧ n ≤ 1073741823)) : 0 = oopV n := by simp [oopV, a]

set_option maxHeartbeats 400000 in
theorem oop_any (n : Int) (w : World) (h1 : -9223372036854775808 ≤ n) (h2 : n ≤ 9223372036854775807) :
    Calls Try.prog 59 #[.int .i64 n] w fun e w' => e = .returned (.int .i64 (oopV n)) ∧ w = w' := by
  go_enter Try.func59, Try.ntmps59
  go_wp2
  all_goals go_ret
  all_goals first
    | exact ⟨ret_i (oop_yes (by omega) (by omega)), rfl⟩
    | exact ⟨ret_i (oop_no (by omega)), rfl⟩

theorem nar_yes {o : Int} (a : o % 2 = 1) (b : -32767 ≤ o) (c : o ≤ 32767) : o % 65536 = narV o ∧ true = narB o := by
  have h : narB o = true := by simp [narB, a, b, c]
  simp [narV, h]
theorem nar_no {o : Int} (a : ¬ (o % 2 = 1 ∧ -32767 ≤ o ∧ o ≤ 32767)) : 0 = narV o ∧ false = narB o := by
  have h : narB o = false := by simpa [narB] using a
  simp [narV, h]
theorem number_yes (o : Int) (w : World) (a : o % 2 = 1) (b : -2147483647 ≤ o) (c : o ≤ 2147483647) :
    Calls Try.prog 64 #[.int .i64 o] w fun e w' => e = .returned (.tuple #[.int .i64 (o / 2), .bool true]) ∧ w = w' := by
  have h := number_any o w (by omega) (by omega)
  rw [← (num_yes a b c).1, ← (num_yes a b c).2] at h; exact h
theorem number_no (o : Int) (w : World) (h1 : -9223372036854775808 ≤ o) (h2 : o ≤ 9223372036854775807) (a : ¬ (o % 2 = 1 ∧ -2147483647 ≤ o ∧ o ≤ 2147483647)) :
    Calls Try.prog 64 #[.int .i64 o] w fun e w' => e = .returned (.tuple #[.int .i64 0, .bool false]) ∧ w = w' := by
  have h := number_any o w h1 h2
  rw [← (num_no a).1, ← (num_no a).2] at h; exact h
theorem and_15 (n : Int) : bits .and .i64 n 32767 = n % 32768 := by
  show IntKind.i64.wrap ((BitVec.ofInt 64 n &&& BitVec.ofInt 64 32767).toNat : Int) = _
  rw [BitVec.toNat_and]
  have h1 : (BitVec.ofInt 64 32767).toNat = 2 ^ 15 - 1 := by decide
  rw [h1, Nat.and_two_pow_sub_one_eq_mod, BitVec.toNat_ofInt, IntKind.wrap_i64]
  omega

theorem wid_lo {o : Int} (a : o % 2 = 1) (b : 0 ≤ o) (c : o ≤ 32767) : o = widV o ∧ true = widB o := by
  have h : widB o = true := by simp [widB]; omega
  have h' : o < 32768 := by omega
  simp [widV, h, h']
theorem wid_hi {o : Int} (a : o % 2 = 1) (b : 32768 ≤ o) (c : o ≤ 65535) : o - 65536 = widV o ∧ true = widB o := by
  have h : widB o = true := by simp [widB]; omega
  have h' : ¬ o < 32768 := by omega
  simp [widV, h, h']
theorem wid_no {o : Int} (a : ¬ (o % 2 = 1 ∧ 0 ≤ o ∧ o ≤ 65535)) : 0 = widV o ∧ false = widB o := by
  have h : widB o = false := by simpa [widB] using a
  simp [widV, h]

end Go.Proofs.Ytmaeoefimkppoaa.Wd
