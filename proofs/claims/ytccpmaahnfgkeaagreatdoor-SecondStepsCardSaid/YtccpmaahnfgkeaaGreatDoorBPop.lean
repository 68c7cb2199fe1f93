/- Of no program: how many bits of a word of 64 are set: the count of math/bits.OnesCount64, step by step, is that number. No condition but that the word is below 2^64. -/
import Derived.Laws.Bits64b
namespace Go.Proofs.YtccpmaahnfgkeaaGreatDoor

/-- How many of the c places from a on are so. -/
def cnt (S : Nat → Bool) (a : Nat) : Nat → Nat
  | 0 => 0
  | c + 1 => cnt S a c + (if S (a + c) = true then 1 else 0)

theorem cnt_add (S : Nat → Bool) (a b : Nat) : ∀ c, cnt S a (b + c) = cnt S a b + cnt S (a + b) c
  | 0 => rfl
  | c + 1 => by
    show cnt S a (b + c + 1) = _
    simp only [cnt]
    rw [cnt_add S a b c, Nat.add_assoc a b c]
    omega

theorem cnt_congr {S T : Nat → Bool} {a b : Nat} : ∀ {c : Nat}, (∀ k, k < c → S (a + k) = T (b + k)) → cnt S a c = cnt T b c
  | 0, _ => rfl
  | c + 1, h => by
    simp only [cnt]
    rw [cnt_congr (c := c) (fun k hk => h k (by omega)), h c (by omega)]

theorem cnt_le (S : Nat → Bool) (a : Nat) : ∀ c, cnt S a c ≤ c
  | 0 => Nat.le_refl _
  | c + 1 => by simp only [cnt]; have := cnt_le S a c; split <;> omega

theorem cnt_none {S : Nat → Bool} {a : Nat} : ∀ {c : Nat}, (∀ k, k < c → S (a + k) = false) → cnt S a c = 0
  | 0, _ => rfl
  | c + 1, h => by simp only [cnt]; rw [cnt_none (c := c) (fun k hk => h k (by omega)), h c (by omega)]; rfl

theorem cnt_all {S : Nat → Bool} {a : Nat} : ∀ {c : Nat}, (∀ k, k < c → S (a + k) = true) → cnt S a c = c
  | 0, _ => rfl
  | c + 1, h => by simp only [cnt]; rw [cnt_all (c := c) (fun k hk => h k (by omega)), h c (by omega)]; rfl

theorem of_cnt_none {S : Nat → Bool} {a : Nat} : ∀ {c : Nat}, cnt S a c = 0 → ∀ k, k < c → S (a + k) = false
  | 0, _, k, hk => by omega
  | c + 1, h, k, hk => by
    simp only [cnt] at h
    by_cases e : k = c
    · subst e; cases hs : S (a + k) <;> simp [hs] at h ⊢
    · exact of_cnt_none (c := c) (by omega) k (by omega)

theorem of_cnt_all {S : Nat → Bool} {a : Nat} : ∀ {c : Nat}, cnt S a c = c → ∀ k, k < c → S (a + k) = true
  | 0, _, k, hk => by omega
  | c + 1, h, k, hk => by
    simp only [cnt] at h
    have hl := cnt_le S a c
    by_cases e : k = c
    · subst e; cases hs : S (a + k) <;> simp [hs] at h ⊢; omega
    · exact of_cnt_all (c := c) (by split at h <;> omega) k (by omega)

/-- The number of bits of a word that are set. -/
def ones (x : Nat) : Nat := cnt x.testBit 0 64

theorem testBit_byte (x j k : Nat) (h : k < 8) : (x / 2 ^ j % 256).testBit k = x.testBit (j + k) := by
  rw [show (256 : Nat) = 2 ^ 8 from rfl, Nat.testBit_mod_two_pow, Nat.testBit_div_two_pow]
  simp [h, Nat.add_comm]

theorem ones_bytes (x : Nat) : ones x = cnt (x % 256).testBit 0 8 + cnt (x / 2 ^ 8 % 256).testBit 0 8 + cnt (x / 2 ^ 16 % 256).testBit 0 8 + cnt (x / 2 ^ 24 % 256).testBit 0 8
    + cnt (x / 2 ^ 32 % 256).testBit 0 8 + cnt (x / 2 ^ 40 % 256).testBit 0 8 + cnt (x / 2 ^ 48 % 256).testBit 0 8 + cnt (x / 2 ^ 56 % 256).testBit 0 8 := by
  have e : ∀ j, cnt x.testBit j 8 = cnt (x / 2 ^ j % 256).testBit 0 8 := fun j => cnt_congr fun k hk => by rw [Nat.zero_add, testBit_byte x j k hk]
  have e0 := e 0
  simp only [Nat.pow_zero, Nat.div_one] at e0
  have s : ones x = cnt x.testBit 0 8 + cnt x.testBit 8 8 + cnt x.testBit 16 8 + cnt x.testBit 24 8 + cnt x.testBit 32 8 + cnt x.testBit 40 8 + cnt x.testBit 48 8 + cnt x.testBit 56 8 := by
    have h56 : cnt x.testBit 0 64 = cnt x.testBit 0 56 + cnt x.testBit 56 8 := by rw [show 64 = 56 + 8 from rfl, cnt_add x.testBit 0 56 8, Nat.zero_add]
    have h48 : cnt x.testBit 0 56 = cnt x.testBit 0 48 + cnt x.testBit 48 8 := by rw [show 56 = 48 + 8 from rfl, cnt_add x.testBit 0 48 8, Nat.zero_add]
    have h40 : cnt x.testBit 0 48 = cnt x.testBit 0 40 + cnt x.testBit 40 8 := by rw [show 48 = 40 + 8 from rfl, cnt_add x.testBit 0 40 8, Nat.zero_add]
    have h32 : cnt x.testBit 0 40 = cnt x.testBit 0 32 + cnt x.testBit 32 8 := by rw [show 40 = 32 + 8 from rfl, cnt_add x.testBit 0 32 8, Nat.zero_add]
    have h24 : cnt x.testBit 0 32 = cnt x.testBit 0 24 + cnt x.testBit 24 8 := by rw [show 32 = 24 + 8 from rfl, cnt_add x.testBit 0 24 8, Nat.zero_add]
    have h16 : cnt x.testBit 0 24 = cnt x.testBit 0 16 + cnt x.testBit 16 8 := by rw [show 24 = 16 + 8 from rfl, cnt_add x.testBit 0 16 8, Nat.zero_add]
    have h8 : cnt x.testBit 0 16 = cnt x.testBit 0 8 + cnt x.testBit 8 8 := by rw [show 16 = 8 + 8 from rfl, cnt_add x.testBit 0 8 8, Nat.zero_add]
    show cnt x.testBit 0 64 = _
    omega
  rw [s, e0, e 8, e 16, e 24, e 32, e 40, e 48, e 56]

theorem and_split (a b r s : Nat) (hr : r < 256) (hs : s < 256) : (r + 256 * a) &&& (s + 256 * b) = (r &&& s) + 256 * (a &&& b) := by
  apply Nat.eq_of_testBit_eq
  intro i
  have e1 : r + 256 * a = 2 ^ 8 * a + r := by omega
  have e2 : s + 256 * b = 2 ^ 8 * b + s := by omega
  have h : r &&& s < 2 ^ 8 := Nat.and_lt_two_pow _ hs
  have e3 : (r &&& s) + 256 * (a &&& b) = 2 ^ 8 * (a &&& b) + (r &&& s) := by omega
  rw [e3, Nat.testBit_and, e1, e2, Nat.testBit_two_pow_mul_add a hr, Nat.testBit_two_pow_mul_add b hs, Nat.testBit_two_pow_mul_add _ h]
  split <;> simp

/-- Eight bytes, the least first, as one number. -/
def val8 (a b c d e f g h : Nat) : Nat := a + 256 * (b + 256 * (c + 256 * (d + 256 * (e + 256 * (f + 256 * (g + 256 * h))))))

theorem and_val8 (m a b c d e f g h : Nat) (hm : m < 256) (ha : a < 256) (hb : b < 256) (hc : c < 256) (hd : d < 256) (he : e < 256) (hf : f < 256) (hg : g < 256) :
    val8 a b c d e f g h &&& val8 m m m m m m m m = val8 (a &&& m) (b &&& m) (c &&& m) (d &&& m) (e &&& m) (f &&& m) (g &&& m) (h &&& m) := by
  unfold val8
  rw [and_split _ _ _ _ ha hm, and_split _ _ _ _ hb hm, and_split _ _ _ _ hc hm, and_split _ _ _ _ hd hm, and_split _ _ _ _ he hm, and_split _ _ _ _ hf hm, and_split _ _ _ _ hg hm]

theorem bytes_val8 (x : Nat) (hx : x < 2 ^ 64) : x = val8 (x % 256) (x / 2 ^ 8 % 256) (x / 2 ^ 16 % 256) (x / 2 ^ 24 % 256) (x / 2 ^ 32 % 256) (x / 2 ^ 40 % 256) (x / 2 ^ 48 % 256) (x / 2 ^ 56 % 256) := by
  unfold val8; omega

theorem step1 : ∀ r, r < 256 → ∀ c, c < 2 → (r / 2 + 128 * c) &&& 85 = (r / 2) &&& 85 := by decide +kernel
theorem step2 : ∀ r, r < 256 → ∀ c, c < 4 → (r / 4 + 64 * c) &&& 51 = (r / 4) &&& 51 := by decide +kernel
def q1 (r : Nat) : Nat := (r / 2 &&& 85) + (r &&& 85)
def q2 (r : Nat) : Nat := (r / 4 &&& 51) + (r &&& 51)
theorem q1_lt : ∀ r, r < 256 → q1 r < 256 := by decide +kernel
theorem q2_le : ∀ r, r < 256 → q2 (q1 r) / 16 ≤ 4 ∧ q2 (q1 r) % 16 ≤ 4 := by decide +kernel
theorem q3 : ∀ r, r < 256 → q2 (q1 r) / 16 + q2 (q1 r) % 16 = cnt r.testBit 0 8 := by decide +kernel

theorem half_val8 (a b c d e f g h : Nat) : val8 a b c d e f g h / 2 = val8 (a / 2 + 128 * (b % 2)) (b / 2 + 128 * (c % 2)) (c / 2 + 128 * (d % 2)) (d / 2 + 128 * (e % 2)) (e / 2 + 128 * (f % 2)) (f / 2 + 128 * (g % 2)) (g / 2 + 128 * (h % 2)) (h / 2) := by
  unfold val8; omega
theorem quart_val8 (a b c d e f g h : Nat) : val8 a b c d e f g h / 4 = val8 (a / 4 + 64 * (b % 4)) (b / 4 + 64 * (c % 4)) (c / 4 + 64 * (d % 4)) (d / 4 + 64 * (e % 4)) (e / 4 + 64 * (f % 4)) (f / 4 + 64 * (g % 4)) (g / 4 + 64 * (h % 4)) (h / 4) := by
  unfold val8; omega
theorem sixt_val8 (a b c d e f g h : Nat) : val8 a b c d e f g h / 16 = val8 (a / 16 + 16 * (b % 16)) (b / 16 + 16 * (c % 16)) (c / 16 + 16 * (d % 16)) (d / 16 + 16 * (e % 16)) (e / 16 + 16 * (f % 16)) (f / 16 + 16 * (g % 16)) (g / 16 + 16 * (h % 16)) (h / 16) := by
  unfold val8; omega
theorem add_val8 (a b c d e f g h a' b' c' d' e' f' g' h' : Nat) : val8 a b c d e f g h + val8 a' b' c' d' e' f' g' h' = val8 (a + a') (b + b') (c + c') (d + d') (e + e') (f + f') (g + g') (h + h') := by
  unfold val8; omega

/-- math/bits.OnesCount64 on numbers. -/
def swar1 (x : Nat) : Nat := (x / 2 &&& 6148914691236517205) + (x &&& 6148914691236517205)
def swar2 (x : Nat) : Nat := (x / 4 &&& 3689348814741910323) + (x &&& 3689348814741910323)
def swar3 (x : Nat) : Nat := (x / 16 + x) &&& 1085102592571150095
def swar4 (x : Nat) : Nat := x + x / 256
def swar5 (x : Nat) : Nat := x + x / 65536
def swar6 (x : Nat) : Nat := x + x / 4294967296

theorem mod_lt256 (x : Nat) : x % 256 < 256 := Nat.mod_lt _ (by decide)

theorem swar1_val8 (a b c d e f g h : Nat) (ha : a < 256) (hb : b < 256) (hc : c < 256) (hd : d < 256) (he : e < 256) (hf : f < 256) (hg : g < 256) :
    swar1 (val8 a b c d e f g h) = val8 (q1 a) (q1 b) (q1 c) (q1 d) (q1 e) (q1 f) (q1 g) (q1 h) := by
  have hm : (6148914691236517205 : Nat) = val8 85 85 85 85 85 85 85 85 := by decide
  unfold swar1
  rw [hm, half_val8, and_val8 85 _ _ _ _ _ _ _ _ (by decide) (by omega) (by omega) (by omega) (by omega) (by omega) (by omega) (by omega),
    and_val8 85 _ _ _ _ _ _ _ _ (by decide) ha hb hc hd he hf hg, add_val8,
    step1 a ha _ (Nat.mod_lt _ (by decide)), step1 b hb _ (Nat.mod_lt _ (by decide)), step1 c hc _ (Nat.mod_lt _ (by decide)), step1 d hd _ (Nat.mod_lt _ (by decide)), step1 e he _ (Nat.mod_lt _ (by decide)), step1 f hf _ (Nat.mod_lt _ (by decide)), step1 g hg _ (Nat.mod_lt _ (by decide))]
  rfl

theorem swar2_val8 (a b c d e f g h : Nat) (ha : a < 256) (hb : b < 256) (hc : c < 256) (hd : d < 256) (he : e < 256) (hf : f < 256) (hg : g < 256) :
    swar2 (val8 a b c d e f g h) = val8 (q2 a) (q2 b) (q2 c) (q2 d) (q2 e) (q2 f) (q2 g) (q2 h) := by
  have hm : (3689348814741910323 : Nat) = val8 51 51 51 51 51 51 51 51 := by decide
  unfold swar2
  rw [hm, quart_val8, and_val8 51 _ _ _ _ _ _ _ _ (by decide) (by omega) (by omega) (by omega) (by omega) (by omega) (by omega) (by omega),
    and_val8 51 _ _ _ _ _ _ _ _ (by decide) ha hb hc hd he hf hg, add_val8,
    step2 a ha _ (Nat.mod_lt _ (by decide)), step2 b hb _ (Nat.mod_lt _ (by decide)), step2 c hc _ (Nat.mod_lt _ (by decide)), step2 d hd _ (Nat.mod_lt _ (by decide)), step2 e he _ (Nat.mod_lt _ (by decide)), step2 f hf _ (Nat.mod_lt _ (by decide)), step2 g hg _ (Nat.mod_lt _ (by decide))]
  rfl

def nib (a : Nat) : Prop := a / 16 ≤ 4 ∧ a % 16 ≤ 4
theorem nib_step (a b : Nat) (ha : nib a) (hb : nib b) : (a / 16 + 16 * (b % 16)) + a < 256 ∧ (a / 16 + 16 * (b % 16) + a) &&& 15 = a / 16 + a % 16 := by
  unfold nib at *
  refine ⟨by omega, ?_⟩
  rw [show (15 : Nat) = 2 ^ 4 - 1 from rfl, Nat.and_two_pow_sub_one_eq_mod]
  omega
theorem nib_last (a : Nat) (ha : nib a) : (a / 16 + a) &&& 15 = a / 16 + a % 16 := by
  unfold nib at *
  rw [show (15 : Nat) = 2 ^ 4 - 1 from rfl, Nat.and_two_pow_sub_one_eq_mod]
  omega

theorem swar3_val8 (a b c d e f g h : Nat) (ha : nib a) (hb : nib b) (hc : nib c) (hd : nib d) (he : nib e) (hf : nib f) (hg : nib g) (hh : nib h) :
    swar3 (val8 a b c d e f g h) = val8 (a / 16 + a % 16) (b / 16 + b % 16) (c / 16 + c % 16) (d / 16 + d % 16) (e / 16 + e % 16) (f / 16 + f % 16) (g / 16 + g % 16) (h / 16 + h % 16) := by
  have hm : (1085102592571150095 : Nat) = val8 15 15 15 15 15 15 15 15 := by decide
  unfold swar3
  rw [hm, sixt_val8, add_val8, and_val8 15 _ _ _ _ _ _ _ _ (by decide) (nib_step a b ha hb).1 (nib_step b c hb hc).1 (nib_step c d hc hd).1 (nib_step d e hd he).1 (nib_step e f he hf).1 (nib_step f g hf hg).1 (nib_step g h hg hh).1,
    (nib_step a b ha hb).2, (nib_step b c hb hc).2, (nib_step c d hc hd).2, (nib_step d e hd he).2, (nib_step e f he hf).2, (nib_step f g hf hg).2, (nib_step g h hg hh).2, nib_last h hh]

theorem swar_last (a b c d e f g h : Nat) (ha : a ≤ 8) (hb : b ≤ 8) (hc : c ≤ 8) (hd : d ≤ 8) (he : e ≤ 8) (hf : f ≤ 8) (hg : g ≤ 8) (hh : h ≤ 8) :
    swar6 (swar5 (swar4 (val8 a b c d e f g h))) % 128 = a + b + c + d + e + f + g + h ∧ swar6 (swar5 (swar4 (val8 a b c d e f g h))) < 18446744073709551616 := by
  have e4 : swar4 (val8 a b c d e f g h) = val8 (a + b) (b + c) (c + d) (d + e) (e + f) (f + g) (g + h) h := by unfold swar4 val8; omega
  have e5 : swar5 (val8 (a + b) (b + c) (c + d) (d + e) (e + f) (f + g) (g + h) h) = val8 (a + b + c + d) (b + c + d + e) (c + d + e + f) (d + e + f + g) (e + f + g + h) (f + g + h) (g + h) h := by unfold swar5 val8; omega
  have e6 : swar6 (val8 (a + b + c + d) (b + c + d + e) (c + d + e + f) (d + e + f + g) (e + f + g + h) (f + g + h) (g + h) h) = val8 (a + b + c + d + e + f + g + h) (b + c + d + e + f + g + h) (c + d + e + f + g + h) (d + e + f + g + h) (e + f + g + h) (f + g + h) (g + h) h := by unfold swar6 val8; omega
  rw [e4, e5, e6]
  unfold val8
  omega

theorem ones_le (x : Nat) : ones x ≤ 64 := cnt_le _ _ _

/-- **OnesCount64 counts the bits that are set**; none of its sums passes 2^64. -/
theorem swar_all (x : Nat) (hx : x < 18446744073709551616) :
    swar6 (swar5 (swar4 (swar3 (swar2 (swar1 x))))) % 128 = ones x ∧ swar6 (swar5 (swar4 (swar3 (swar2 (swar1 x))))) < 18446744073709551616 := by
  have hb := ones_bytes x
  have hv := bytes_val8 x hx
  have l0 := mod_lt256 x
  have l1 := mod_lt256 (x / 2 ^ 8)
  have l2 := mod_lt256 (x / 2 ^ 16)
  have l3 := mod_lt256 (x / 2 ^ 24)
  have l4 := mod_lt256 (x / 2 ^ 32)
  have l5 := mod_lt256 (x / 2 ^ 40)
  have l6 := mod_lt256 (x / 2 ^ 48)
  have l7 := mod_lt256 (x / 2 ^ 56)
  revert hb hv l0 l1 l2 l3 l4 l5 l6 l7
  generalize x % 256 = a, x / 2 ^ 8 % 256 = b, x / 2 ^ 16 % 256 = c, x / 2 ^ 24 % 256 = d, x / 2 ^ 32 % 256 = e, x / 2 ^ 40 % 256 = f, x / 2 ^ 48 % 256 = g, x / 2 ^ 56 % 256 = h
  intro hb hv l0 l1 l2 l3 l4 l5 l6 l7
  rw [hb, hv, swar1_val8 a b c d e f g h l0 l1 l2 l3 l4 l5 l6, swar2_val8 _ _ _ _ _ _ _ _ (q1_lt a l0) (q1_lt b l1) (q1_lt c l2) (q1_lt d l3) (q1_lt e l4) (q1_lt f l5) (q1_lt g l6),
    swar3_val8 _ _ _ _ _ _ _ _ (q2_le a l0) (q2_le b l1) (q2_le c l2) (q2_le d l3) (q2_le e l4) (q2_le f l5) (q2_le g l6) (q2_le h l7),
    q3 a l0, q3 b l1, q3 c l2, q3 d l3, q3 e l4, q3 f l5, q3 g l6, q3 h l7]
  exact swar_last _ _ _ _ _ _ _ _ (cnt_le _ _ _) (cnt_le _ _ _) (cnt_le _ _ _) (cnt_le _ _ _) (cnt_le _ _ _) (cnt_le _ _ _) (cnt_le _ _ _) (cnt_le _ _ _)

theorem swar1_le (x : Nat) : swar1 x ≤ 12297829382473034410 := by
  have h1 : x / 2 &&& 6148914691236517205 ≤ 6148914691236517205 := Nat.and_le_right
  have h2 : x &&& 6148914691236517205 ≤ 6148914691236517205 := Nat.and_le_right
  unfold swar1; omega
theorem swar2_le (x : Nat) : swar2 x ≤ 7378697629483820646 := by
  have h1 : x / 4 &&& 3689348814741910323 ≤ 3689348814741910323 := Nat.and_le_right
  have h2 : x &&& 3689348814741910323 ≤ 3689348814741910323 := Nat.and_le_right
  unfold swar2; omega
theorem swar3_le (x : Nat) : swar3 x ≤ 1085102592571150095 := Nat.and_le_right
theorem swar4_le (x : Nat) (h : x ≤ 1085102592571150095) : swar4 x ≤ 1089341274611818611 := by unfold swar4; omega
theorem swar5_le (x : Nat) (h : x ≤ 1089341274611818611) : swar5 x ≤ 1099511627776000000 := by unfold swar5; omega
end Go.Proofs.YtccpmaahnfgkeaaGreatDoor
