/- What the functions of math/bits that package bits calls, and its own function mask, return. No condition but those that each statement names. -/
import Derived.Test.YtccpmaahnfgkeaaGreatDoorRows
import Derived.Test.YtccpmaahnfgkeaaGreatDoorBPop
import Derived.WalkKit
import Derived.ProofKit
import Derived.OpenShut
import Derived.Handy
import Derived.Lib.Hide
import Derived.Lib.TrailingZeros
import Derived.Lib.BitFns
import Derived.Laws.BitsAllLaws
import Derived.Deep.QuietTactic
import Derived.BigQuiet
namespace Go.Proofs.YtccpmaahnfgkeaaGreatDoor
open Go.RowKit

/-- A number that fits is as it is. -/
theorem wrap_nat (n : Nat) (h : n < 18446744073709551616) : IntKind.u64.wrap (n : Int) = (n : Int) := by rw [IntKind.wrap_u64]; omega

theorem swar1_int (x : Nat) (hx : x < 18446744073709551616) :
    IntKind.u64.wrap (bits BinOp.and IntKind.u64 (↑x / 2) 6148914691236517205 + bits BinOp.and IntKind.u64 (↑x) 6148914691236517205) = ((swar1 x : Nat) : Int) := by
  have h1 := bits_and_u64_nat (x / 2) 6148914691236517205 (by omega) (by decide)
  have h2 := bits_and_u64_nat x 6148914691236517205 hx (by decide)
  have hl := swar1_le x
  rw [Int.natCast_ediv] at h1
  simp only [Int.cast_ofNat_Int] at h1 h2
  rw [h1, h2, ← Int.natCast_add, wrap_nat _ (by unfold swar1 at hl; omega)]
  rfl
theorem swar2_int (x : Nat) (hx : x < 18446744073709551616) :
    IntKind.u64.wrap (bits BinOp.and IntKind.u64 (↑x / 4) 3689348814741910323 + bits BinOp.and IntKind.u64 (↑x) 3689348814741910323) = ((swar2 x : Nat) : Int) := by
  have h1 := bits_and_u64_nat (x / 4) 3689348814741910323 (by omega) (by decide)
  have h2 := bits_and_u64_nat x 3689348814741910323 hx (by decide)
  have hl := swar2_le x
  rw [Int.natCast_ediv] at h1
  simp only [Int.cast_ofNat_Int] at h1 h2
  rw [h1, h2, ← Int.natCast_add, wrap_nat _ (by unfold swar2 at hl; omega)]
  rfl
theorem swar3_int (x : Nat) (hx : x ≤ 7378697629483820646) :
    bits BinOp.and IntKind.u64 (IntKind.u64.wrap (↑x / 16 + ↑x)) 1085102592571150095 = ((swar3 x : Nat) : Int) := by
  have h1 := bits_and_u64_nat (x / 16 + x) 1085102592571150095 (by omega) (by decide)
  have e : (x : Int) / 16 + x = ((x / 16 + x : Nat) : Int) := by omega
  simp only [Int.cast_ofNat_Int] at h1
  rw [e, wrap_nat _ (by omega), h1]
  rfl
theorem swar4_int (x : Nat) (hx : x ≤ 1085102592571150095) : IntKind.u64.wrap (↑x + ↑x / 256) = ((swar4 x : Nat) : Int) := by
  have hl := swar4_le x hx
  have e : (x : Int) + x / 256 = ((swar4 x : Nat) : Int) := by unfold swar4; omega
  rw [e, wrap_nat _ (by omega)]
theorem swar5_int (x : Nat) (hx : x ≤ 1089341274611818611) : IntKind.u64.wrap (↑x + ↑x / 65536) = ((swar5 x : Nat) : Int) := by
  have hl := swar5_le x hx
  have e : (x : Int) + x / 65536 = ((swar5 x : Nat) : Int) := by unfold swar5; omega
  rw [e, wrap_nat _ (by omega)]
theorem swar6_int (x : Nat) (hx : x ≤ 1099511627776000000) : IntKind.u64.wrap (↑x + ↑x / 4294967296) = ((swar6 x : Nat) : Int) := by
  have e : (x : Int) + x / 4294967296 = ((swar6 x : Nat) : Int) := by unfold swar6; omega
  rw [e, wrap_nat _ (by unfold swar6; omega)]

theorem and127 (y n : Nat) (h : y % 128 = n) (hy : y < 18446744073709551616) : bits BinOp.and IntKind.i64 (wrap64 (y : Int)) 127 = (n : Int) := by
  show IntKind.i64.wrap ((BitVec.ofInt 64 (wrap64 (y : Int)) &&& BitVec.ofInt 64 127).toNat : Int) = _
  rw [BitVec.toNat_and]
  have h1 : (BitVec.ofInt 64 127).toNat = 2 ^ 7 - 1 := by decide
  rw [h1, Nat.and_two_pow_sub_one_eq_mod, BitVec.toNat_ofInt, IntKind.wrap_i64]
  unfold wrap64
  omega

set_option maxHeartbeats 1000000 in
theorem ones_any (x : Nat) (w : World) (hx : x < 18446744073709551616) :
    Calls Tryz.prog 114 #[.int .u64 x] w fun e w' => e = .returned (.int .i64 (ones x)) ∧ w = w' := by
  have b1 := swar1_le x
  have b2 := swar2_le (swar1 x)
  have b3 := swar3_le (swar2 (swar1 x))
  have b4 := swar4_le _ b3
  have b5 := swar5_le _ b4
  have E1 := swar1_int x hx
  have E2 := swar2_int (swar1 x) (by omega)
  have E3 := swar3_int (swar2 (swar1 x)) b2
  have E4 := swar4_int (swar3 (swar2 (swar1 x))) b3
  have E5 := swar5_int (swar4 (swar3 (swar2 (swar1 x)))) b4
  have E6 := swar6_int (swar5 (swar4 (swar3 (swar2 (swar1 x))))) b5
  clear b1 b2 b3 b4 b5
  go_enter Tryz.func114, Tryz.ntmps114
  go_wp2
  go_ret
  have hs := swar_all x hx
  exact ⟨congrArg (fun n : Int => Ending.returned (.int .i64 n)) (and127 _ _ hs.1 hs.2), rfl⟩

/-- The bits from a on, below b. -/
def maskN (a b : Nat) : Nat := (18446744073709551616 - 2 ^ a) &&& (2 ^ b - 1)
theorem shl_all : ∀ a, a < 65 → IntKind.u64.wrap (18446744073709551615 * 2 ^ a) = ((18446744073709551616 - 2 ^ a : Nat) : Int) := by decide +kernel
theorem not_shl : ∀ b, b < 65 → 18446744073709551615 - (18446744073709551616 - 2 ^ b) = 2 ^ b - 1 ∧ 18446744073709551616 - 2 ^ b < 18446744073709551616 := by decide +kernel
theorem hi_bit : ∀ a, a < 65 → ∀ k, k < 64 → (18446744073709551616 - 2 ^ a).testBit k = decide (a ≤ k) := by decide +kernel
theorem maskN_lt (a b : Nat) : maskN a b < 18446744073709551616 := by
  have h : maskN a b ≤ 18446744073709551616 - 2 ^ a := Nat.and_le_left
  have := Nat.two_pow_pos a
  omega
theorem maskN_bit (a b k : Nat) (ha : a < 65) (hk : k < 64) : (maskN a b).testBit k = decide (a ≤ k ∧ k < b) := by
  unfold maskN
  rw [Nat.testBit_and, hi_bit a ha k hk, Nat.testBit_two_pow_sub_one]
  simp
theorem mask_int (a b : Nat) (ha : a < 65) (hb : b < 65) (x y : Int) (hx : x = IntKind.u64.wrap (18446744073709551615 * 2 ^ a)) (hy : y = IntKind.u64.wrap (18446744073709551615 * 2 ^ b)) :
    bits BinOp.andNot IntKind.u64 x y = (maskN a b : Int) := by
  rw [hx, hy, shl_all a ha, shl_all b hb, u64_andNot_nat _ _ (not_shl a ha).2 (not_shl b hb).2, (not_shl b hb).1]
  rfl
theorem ret_u64 {a b : Int} (h : a = b) : Ending.returned (.int .u64 a) = .returned (.int .u64 b) := by rw [h]

set_option maxHeartbeats 1000000 in
theorem mask_any (k f n : Nat) (w : World) (hx : k < 100000) (hf : f < 100000) (hn : n < 100000) (h1 : f < 64 * k + 64) (h2 : 64 * k < f + n) :
    Calls Tryz.prog 84 #[.int .i64 k, .int .i64 f, .int .i64 n] w fun e w' => e = .returned (.int .u64 (maskN (f - 64 * k) (min (f + n - 64 * k) 64))) ∧ ∃ n, w' = w.drewN n := by
  go_enter Tryz.func84, Tryz.ntmps84
  go_wp2
  all_goals
    go_quiet (fail)
    go_wp2
    go_ret
    refine ⟨ret_u64 (mask_int _ _ (by omega) (by omega) _ _ ?_ ?_), _, rfl⟩
  all_goals first
    | (rw [show f - 64 * k = 0 by omega]; decide)
    | (rw [show min (f + n - 64 * k) 64 = 64 by omega]; decide)
    | rw [show f + n - k * 64 = min (f + n - 64 * k) 64 by omega]
    | rw [show f - k * 64 = f - 64 * k by omega]

end Go.Proofs.YtccpmaahnfgkeaaGreatDoor
