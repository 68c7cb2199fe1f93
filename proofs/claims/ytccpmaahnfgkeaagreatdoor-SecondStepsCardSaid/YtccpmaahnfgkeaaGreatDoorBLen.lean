/- What math/bits.Len64 returns: one more than the place of the greatest bit that is set, or 0. No condition but that the number is below 2^64. -/
import Derived.Test.YtccpmaahnfgkeaaGreatDoorRows
import Derived.Lib.Strings
import Derived.Lib.Slices
import Derived.Lib.Small
import Derived.Lib.Walk
import Derived.Lib.BitFns
namespace Go.Proofs.YtccpmaahnfgkeaaGreatDoor

theorem len_close (s p : Nat) (hp : 2 ^ s = p) (hs : s ≤ 56) (x y : Int) (h0 : 0 ≤ x) (hx : x < 18446744073709551616) (hy : y = x / (p : Int)) (h1 : y < 256) (h2 : s = 0 ∨ (p : Int) ≤ x) :
    ((s : Int) + ((Lib.len8 (y % 256) + 9223372036854775808) % 18446744073709551616 - 9223372036854775808) + 9223372036854775808) % 18446744073709551616 - 9223372036854775808 = ↑(Lib.bitLen x.toNat) := by
  obtain ⟨n, rfl⟩ := Int.eq_ofNat_of_zero_le h0
  have e : y = ((n / p : Nat) : Int) := by rw [hy]; simp
  clear hy
  subst e
  have sm : ∀ q : Nat, (q : Int) < 256 → (q : Int) % 256 = q ∧ (0 : Int) ≤ q ∧ (q : Int) ≤ 255 := fun q hq => by omega
  obtain ⟨em, hq0, hq1⟩ := sm (n / p) h1
  rw [em, Lib.len8_of _ hq0 hq1]
  have l := Lib.bitLen_le8' ((n / p : Nat) : Int) hq0 hq1
  have sh : Lib.bitLen n = s + Lib.bitLen (n / p) := by
    rcases h2 with rfl | h2
    · have hp1 : p = 1 := by simpa using hp.symm
      subst hp1; simp
    · have := Lib.bitLen_shift s n (by omega) (by omega)
      rw [hp] at this; exact this
  simp only [Int.toNat_natCast] at l ⊢
  rw [sh]
  omega
theorem len_close0 (x : Int) (h0 : 0 ≤ x) (h1 : x < 256) :
    (Lib.len8 (x % 256) + 9223372036854775808) % 18446744073709551616 - 9223372036854775808 = ↑(Lib.bitLen x.toNat) := by
  have h := len_close 0 1 rfl (by decide) x x h0 (by omega) (by simp) h1 (.inl rfl)
  have l := Lib.bitLen_le8' x h0 (by omega)
  omega

set_option maxHeartbeats 4000000 in
set_option maxRecDepth 100000 in
theorem len64_any (x : Int) (w : World) (h0 : 0 ≤ x) (hx : x < 18446744073709551616) :
    Calls Tryz.prog 86 #[.int .u64 x] w fun e w' => e = .returned (.int .i64 (Lib.bitLen x.toNat)) ∧ w = w' := by
  go_enter Tryz.func86, Tryz.ntmps86
  go_wp2
  all_goals (go_ret; refine ⟨congrArg Ending.returned (congrArg (Value.int IntKind.i64) ?_), rfl⟩)
  · exact len_close 56 72057594037927936 (by decide) (by decide) x _ h0 hx (by omega) (by omega) (.inr (by omega))
  · exact len_close 48 281474976710656 (by decide) (by decide) x _ h0 hx (by omega) (by omega) (.inr (by omega))
  · exact len_close 40 1099511627776 (by decide) (by decide) x _ h0 hx (by omega) (by omega) (.inr (by omega))
  · exact len_close 32 4294967296 (by decide) (by decide) x _ h0 hx (by omega) (by omega) (.inr (by omega))
  · exact len_close 24 16777216 (by decide) (by decide) x _ h0 hx (by omega) (by omega) (.inr (by omega))
  · exact len_close 16 65536 (by decide) (by decide) x _ h0 hx (by omega) (by omega) (.inr (by omega))
  · exact len_close 8 256 (by decide) (by decide) x _ h0 hx (by omega) (by omega) (.inr (by omega))
  · exact len_close0 x h0 (by omega)

theorem bitLenAux_bit : ∀ (f x : Nat), x ≠ 0 → x < 2 ^ f → ∃ k, Lib.bitLenAux f x = k + 1 ∧ x.testBit k = true ∧ k < f
  | 0, x, h0, h => by simp at h; omega
  | f + 1, x, h0, h => by
    unfold Lib.bitLenAux
    rw [if_neg h0]
    by_cases h1 : x / 2 = 0
    · have : x = 1 := by omega
      subst this
      refine ⟨0, ?_, by decide, by omega⟩
      cases f <;> simp [Lib.bitLenAux]
    · obtain ⟨k, hk, hb, hl⟩ := bitLenAux_bit f (x / 2) h1 (by rw [Nat.pow_succ] at h; omega)
      exact ⟨k + 1, by omega, by rw [Nat.testBit_succ]; exact hb, by omega⟩

/-- Len64's answer, where the word is not 0: one behind a bit that is set. -/
theorem bitLen_bit (x : Nat) (h0 : x ≠ 0) (h : x < 18446744073709551616) : ∃ k, Lib.bitLen x = k + 1 ∧ x.testBit k = true ∧ k < 64 := bitLenAux_bit 64 x h0 h
end Go.Proofs.YtccpmaahnfgkeaaGreatDoor
