/- Plain facts on a heap that is filled by blocks of one size, of which some are taken away again. No program is spoken of. -/
import Derived.Test.YtgfjfpfhalblgaaHMc
namespace Go.Proofs.Ytgfjfpfhalblgaa

def zz (s : Nat) : List Int := List.replicate s 0
theorem zz_len (s : Nat) : (zz s).length = s := List.length_replicate
/-- The first k places of s words each; those that P lets are blocks. -/
def GB (P : Nat → Bool) (s k : Nat) : List (Option Bk) := (List.range k).map fun i => if P i = true then some ⟨i * s, zz s⟩ else none
theorem gb_len (P : Nat → Bool) (s k : Nat) : (GB P s k).length = k := by simp [GB]
theorem gb_get (P : Nat → Bool) {s k i : Nat} (h : i < k) : (GB P s k)[i]? = some (if P i = true then some ⟨i * s, zz s⟩ else none) := by
  rw [GB, List.getElem?_map, List.getElem?_range h]; rfl
theorem gb_look (P : Nat → Bool) (s k i : Nat) : look (GB P s k) i = if i < k ∧ P i = true then some ⟨i * s, zz s⟩ else none := by
  rcases Nat.lt_or_ge i k with h | h
  · rw [look_get (gb_get P h)]
    by_cases hp : P i = true
    · rw [if_pos hp, if_pos ⟨h, hp⟩]
    · rw [if_neg hp, if_neg fun e => hp e.2]
  · rw [look_out (by rw [gb_len]; exact h), if_neg fun e => by omega]
theorem gb_some {P : Nat → Bool} {s k i : Nat} {b : Bk} (h : look (GB P s k) i = some b) : i < k ∧ P i = true ∧ b = ⟨i * s, zz s⟩ := by
  rw [gb_look] at h
  split at h
  · rename_i hc
    injection h with h
    exact ⟨hc.1, hc.2, h.symm⟩
  · cases h
theorem mul_step {i k s : Nat} (h : i < k) : i * s + s ≤ k * s := by
  have := Nat.mul_le_mul_right s (show i + 1 ≤ k from h)
  rw [Nat.add_mul, Nat.one_mul] at this
  exact this
theorem gb_good (P : Nat → Bool) {s k n : Nat} (hs : 0 < s) (hn : k * s ≤ n) : GoodB n (GB P s k) := by
  refine ⟨fun i b hb => ?_, fun i b hb hz => ?_, fun i j bi bj p hij hi hj hp => ?_, fun i b hb x hx => ?_⟩
  · obtain ⟨h1, _, rfl⟩ := gb_some hb
    have := mul_step (s := s) h1
    simp only [zz_len]; omega
  · obtain ⟨h1, _, rfl⟩ := gb_some hb
    have := congrArg List.length hz
    simp only [zz_len, List.length_nil] at this
    omega
  · obtain ⟨_, _, rfl⟩ := gb_some hi
    obtain ⟨_, _, rfl⟩ := gb_some hj
    obtain ⟨h1, h2⟩ := inB_iff.1 hp
    simp only [zz_len] at h1 h2
    refine inB_not.2 ?_
    simp only [zz_len]
    rintro ⟨h3, h4⟩
    rcases Nat.lt_or_gt_of_ne hij with h | h
    · have := mul_step (s := s) h; omega
    · have := mul_step (s := s) h; omega
  · obtain ⟨_, _, rfl⟩ := gb_some hb
    have := List.eq_of_mem_replicate hx
    omega
theorem place_of {p s : Nat} (hs : 0 < s) : p / s * s ≤ p ∧ p < p / s * s + s := by
  have h1 := Nat.div_add_mod p s
  have h2 := Nat.mod_lt p hs
  rw [Nat.mul_comm] at h1
  omega
theorem place_is {p s i : Nat} (h1 : i * s ≤ p) (h2 : p < i * s + s) : p / s = i := by
  have hs : 0 < s := by omega
  have h3 := place_of (p := p) hs
  rcases Nat.lt_trichotomy (p / s) i with h | h | h
  · have := mul_step (s := s) h; omega
  · exact h
  · have := mul_step (s := s) h; omega
theorem zz_get (s j : Nat) : (zz s).getD j 0 = 0 := by rw [zz, List.getD, List.getElem?_replicate]; split <;> rfl
/-- Which word stands where. -/
theorem gb_word (P : Nat → Bool) {s k : Nat} (hs : 0 < s) (p : Nat) : wordAt (GB P s k) p = if p / s < k ∧ P (p / s) = true then 0 else -1 := by
  have hp := place_of (p := p) hs
  refine (gb_good P hs (Nat.le_refl _)).word ?_
  by_cases h : p / s < k ∧ P (p / s) = true
  · rw [if_pos h]
    exact .inl ⟨p / s, _, by rw [gb_look, if_pos h], inB_iff.2 (by simp only [zz_len]; exact hp), (zz_get _ _).symm⟩
  · rw [if_neg h]
    refine .inr ⟨fun i b hb => ?_, rfl⟩
    obtain ⟨h1, h2, rfl⟩ := gb_some hb
    refine inB_not.2 fun hi => h ?_
    simp only [zz_len] at hi
    rw [place_is hi.1 hi.2]
    exact ⟨h1, h2⟩
theorem gb_set (P : Nat → Bool) (s k x : Nat) : (GB P s k).set x none = GB (fun i => P i && !(i == x)) s k := by
  apply List.ext_getElem?
  intro i
  rcases Nat.lt_or_ge i k with h | h
  · rw [gb_get _ h]
    by_cases hx : i = x
    · subst hx
      rw [List.getElem?_set_self (by rw [gb_len]; exact h)]
      simp
    · rw [List.getElem?_set_ne fun e => hx e.symm, gb_get _ h]
      simp [hx]
  · rw [List.getElem?_eq_none (by rw [List.length_set, gb_len]; exact h), List.getElem?_eq_none (by rw [gb_len]; exact h)]
theorem gb_congr {P Q : Nat → Bool} {s k : Nat} (h : ∀ i, i < k → P i = Q i) : GB P s k = GB Q s k := by
  apply List.ext_getElem?
  intro i
  rcases Nat.lt_or_ge i k with hi | hi
  · rw [gb_get _ hi, gb_get _ hi, h i hi]
  · rw [List.getElem?_eq_none (by rw [gb_len]; exact hi), List.getElem?_eq_none (by rw [gb_len]; exact hi)]
theorem gb_succ (P : Nat → Bool) (s k : Nat) : GB P s (k + 1) = GB P s k ++ [if P k = true then some ⟨k * s, zz s⟩ else none] := by
  rw [GB, List.range_succ, List.map_append]; rfl

/-! Filled: i blocks. -/
def FA (s i : Nat) : List (Option Bk) := GB (fun _ => true) s i
theorem fa_zero (s : Nat) : FA s 0 = [] := rfl
theorem fa_next (s i : Nat) : nextB (FA s i) = i := by
  refine next_is (by rw [FA, gb_len]; exact Nat.le_refl _) (fun j hj => ?_) (fun h => by rw [FA, gb_len] at h; omega)
  rw [FA, gb_look, if_pos ⟨hj, rfl⟩]; simp
theorem fa_put (s i : Nat) : putB (FA s i) i ⟨i * s, List.replicate s 0⟩ = FA s (i + 1) := by
  have hl : (FA s i).length = i := gb_len _ _ _
  rw [putB, if_pos hl.symm, FA, FA, gb_succ, List.set_append_right _ _ (by rw [gb_len]; exact Nat.le_refl _), gb_len, Nat.sub_self]
  rfl
theorem fa_first {s i k n : Nat} (hs : 0 < s) (hi : i < k) (hn : k * s = n) : FirstF (wordAt (FA s i)) n s (i * s) true := by
  refine .inl ⟨rfl, by have := mul_step (s := s) hi; omega, fun j hj => ?_, fun b hb => ⟨0, hs, ?_⟩⟩
  · rw [FA, gb_word _ hs, place_is (i := i) (by omega) (by omega), if_neg (by omega)]
  · have h1 := place_of (p := b) hs
    have h2 : b / s < i := by
      rcases Nat.lt_or_ge (b / s) i with h | h
      · exact h
      · have := Nat.mul_le_mul_right s h; omega
    rw [FA, Nat.add_zero, gb_word _ hs, if_pos ⟨h2, rfl⟩]; decide
theorem div_lt {b s k : Nat} (hs : 0 < s) (h : b < k * s) : b / s < k := by
  have h1 := place_of (p := b) hs
  rcases Nat.lt_or_ge (b / s) k with h2 | h2
  · exact h2
  · have := Nat.mul_le_mul_right s h2; omega
theorem fa_full {s k n : Nat} (hs : 0 < s) (hn : k * s = n) : FirstF (wordAt (FA s k)) n 1 0 false := by
  refine .inr ⟨rfl, rfl, fun b hb => ⟨0, by omega, ?_⟩⟩
  rw [FA, Nat.add_zero, gb_word _ hs, if_pos ⟨div_lt hs (by omega), rfl⟩]; decide
theorem fa_at (s i : Nat) : look (FA s (i + 1)) i = some ⟨i * s, zz s⟩ := by rw [FA, gb_look, if_pos ⟨by omega, rfl⟩]

/-! Each second one is taken away: j of them so far. -/
def odd2 (j i : Nat) : Bool := !(i % 2 == 0 && decide (i < 2 * j))
def FB (s k j : Nat) : List (Option Bk) := GB (odd2 j) s k
theorem fb_zero (s k : Nat) : FB s k 0 = FA s k := gb_congr fun i _ => by simp [odd2]
theorem fb_at {s k j : Nat} (h : 2 * j < k) : look (FB s k j) (2 * j) = some ⟨2 * j * s, zz s⟩ := by
  rw [FB, gb_look, if_pos ⟨h, by simp [odd2]⟩]
theorem fb_free (s k j : Nat) : (FB s k j).set (2 * j) none = FB s k (j + 1) := by
  rw [FB, FB, gb_set]
  refine gb_congr fun i _ => ?_
  rw [Bool.eq_iff_iff]
  simp only [odd2, Bool.and_eq_true, Bool.not_eq_true', Bool.and_eq_false_iff, beq_eq_false_iff_ne, decide_eq_false_iff_not, ne_eq]
  omega
/-- All of them are taken away. -/
def FO (s k : Nat) : List (Option Bk) := GB (fun i => i % 2 == 1) s k
theorem fb_done {s k j : Nat} (h : k ≤ 2 * j) : FB s k j = FO s k := gb_congr fun i hi => by
  rw [Bool.eq_iff_iff]
  simp only [odd2, Bool.not_eq_true', Bool.and_eq_false_iff, beq_eq_false_iff_ne, decide_eq_false_iff_not, beq_iff_eq, ne_eq]
  omega
theorem tot_snoc (B : List (Option Bk)) (o : Option Bk) : totB (B ++ [o]) = totB B + match o with | some b => b.ws.length | none => 0 := by
  induction B with
  | nil => cases o <;> simp [totB]
  | cons p r ih => cases p <;> simp only [List.cons_append, totB, ih] <;> omega
theorem fo_tot (s k : Nat) : totB (FO s k) = k / 2 * s := by
  induction k with
  | zero => simp [FO, GB, totB]
  | succ k ih =>
    rw [FO, gb_succ, tot_snoc]
    rw [FO] at ih
    rw [ih]
    by_cases h : k % 2 = 1
    · rw [if_pos (by simpa using h), show (k + 1) / 2 = k / 2 + 1 by omega, Nat.add_mul, Nat.one_mul]
      simp only [zz_len]
    · rw [if_neg (by simpa using h), show (k + 1) / 2 = k / 2 by omega]
      rfl
theorem fo_mid {s k n a : Nat} (hs : 0 < s) (hn : k * s = n) (ha : a + (s + 1) ≤ n) : ∃ j, j < s + 1 ∧ wordAt (FO s k) (a + j) ≠ -1 := by
  have h1 := place_of (p := a) hs
  have h2 : a / s < k := div_lt hs (by omega)
  by_cases h : a / s % 2 = 1
  · refine ⟨0, by omega, ?_⟩
    rw [FO, Nat.add_zero, gb_word _ hs, if_pos ⟨h2, by simpa using h⟩]; decide
  · have h3 : (a / s + 1) * s = a / s * s + s := by rw [Nat.add_mul, Nat.one_mul]
    refine ⟨a / s * s + s - a, by omega, ?_⟩
    have h4 : a / s + 1 < k := by
      rcases Nat.lt_or_ge (a / s + 1) k with h5 | h5
      · exact h5
      · have := Nat.mul_le_mul_right s h5; omega
    rw [show a + (a / s * s + s - a) = a / s * s + s by omega, FO, gb_word _ hs, place_is (i := a / s + 1) (by omega) (by omega), if_pos ⟨h4, by simp; omega⟩]; decide
theorem fo_long {s k n : Nat} (hs : 0 < s) (hk : 0 < k) (hn : k * s = n) : LongIs (wordAt (FO s k)) n s := by
  refine ⟨⟨0, ?_, fun j hj => ?_⟩, fun a ha => fo_mid hs hn ha⟩
  · have := mul_step (s := s) hk; omega
  · rw [FO, gb_word _ hs, place_is (i := 0) (by omega) (by omega), if_neg (by simp)]
theorem fo_none {s k n : Nat} (hs : 0 < s) (hn : k * s = n) : FirstF (wordAt (FO s k)) n (s + 1) 0 false := .inr ⟨rfl, rfl, fun _ hb => fo_mid hs hn hb⟩
theorem fo_cnt {s k n : Nat} (hs : 0 < s) (hn : k * s = n) : cntF (wordAt (FO s k)) n = (k + 1) / 2 * s := by
  have h1 := cnt_tot (gb_good (fun i => i % 2 == 1) hs (Nat.le_of_eq hn))
  have h2 := fo_tot s k
  rw [FO] at h2
  rw [h2] at h1
  have h3 : (k / 2 + (k + 1) / 2) * s = n := by rw [show k / 2 + (k + 1) / 2 = k by omega]; exact hn
  rw [Nat.add_mul] at h3
  rw [FO]; omega
/-- Behind a compaction. -/
theorem fo_comp {s k n m : Nat} {B' : List (Option Bk)} {S : List Nat} (hs : 0 < s) (hk : 0 < k) (hn : k * s = n) (h : CompIs n (FO s k) B' m S) :
    cntF (wordAt B') n = (k + 1) / 2 * s ∧ LongIs (wordAt B') n ((k + 1) / 2 * s) ∧ FirstF (wordAt B') n ((k + 1) / 2 * s) (k / 2 * s) true ∧ B'.length = k := by
  have ht := h.tight
  rw [fo_tot] at ht
  have h3 : (k / 2 + (k + 1) / 2) * s = n := by rw [show k / 2 + (k + 1) / 2 = k by omega]; exact hn
  rw [Nat.add_mul] at h3
  have h4 : 0 < (k + 1) / 2 * s := Nat.mul_pos (by omega) hs
  refine ⟨?_, ?_, .inl ⟨rfl, by omega, fun j hj => (ht _ (by omega)).2 (by omega), fun b hb => ⟨0, h4, fun e => ?_⟩⟩, by rw [h.len, FO, gb_len]⟩
  · rw [cntF_tight ht]; omega
  · have := long_tight ht (by omega)
    rw [show n - k / 2 * s = (k + 1) / 2 * s by omega] at this
    exact this
  · have := (ht b (by omega)).1 e
    omega
end Go.Proofs.Ytgfjfpfhalblgaa
