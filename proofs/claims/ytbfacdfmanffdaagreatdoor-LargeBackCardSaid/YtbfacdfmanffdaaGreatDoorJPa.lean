/- Plain facts for package large: columns of numbers and what they are worth; carries; how often one goes into another by its leading bytes. -/
import Derived.Test.YtbfacdfmanffdaaGreatDoorGLay
namespace Go.Proofs.YtbfacdfmanffdaaGreatDoor
open Go.RowKit

/-! Rows that are added. -/
def tallyF (f : Nat → Int) (off : Nat) (b : List Int) (n : Int) (i : Nat) : Nat → Int := fun j => if off ≤ j ∧ j < off + i then f j + n * dgt b (j - off) else f j
theorem tallyF_zero (f : Nat → Int) (off : Nat) (b : List Int) (n : Int) : tallyF f off b n 0 = f := by
  funext j
  unfold tallyF
  rw [if_neg (by omega)]
theorem tallyF_at (f : Nat → Int) (off : Nat) (b : List Int) (n : Int) (i : Nat) : tallyF f off b n i (off + i) = f (off + i) := by
  unfold tallyF
  rw [if_neg (by omega)]
theorem tallyF_step (f : Nat → Int) (off : Nat) (b : List Int) (n : Int) (i j : Nat) : (if j = off + i then f (off + i) + n * dgt b i else tallyF f off b n i j) = tallyF f off b n (i + 1) j := by
  unfold tallyF
  by_cases h : j = off + i
  · subst h
    rw [if_pos rfl, if_pos (by omega), show off + i - off = i by omega]
  · rw [if_neg h]
    by_cases h2 : off ≤ j ∧ j < off + i
    · rw [if_pos h2, if_pos (by omega)]
    · rw [if_neg h2, if_neg (by omega)]
theorem sumV_tally (f : Nat → Int) (off m : Nat) (b : List Int) (n : Int) : ∀ i, i ≤ b.length → off + i ≤ m → sumV (tallyF f off b n i) m = sumV f m + n * (256 ^ off * val (b.take i))
  | 0, _, _ => by rw [tallyF_zero]; simp [val]
  | i + 1, h, hm => by
    have ih := sumV_tally f off m b n i (by omega) (by omega)
    have e : tallyF f off b n (i + 1) = fun j => if j = off + i then tallyF f off b n i (off + i) + n * dgt b i else tallyF f off b n i j := by
      funext j
      rw [tallyF_at, tallyF_step]
    have e2 : n * dgt b i * (256 ^ off * 256 ^ i) = n * (256 ^ off * (dgt b i * 256 ^ i)) := by rw [Int.mul_assoc, Int.mul_left_comm (dgt b i)]
    rw [e, sumV_upd _ _ _ _ (by omega), ih, take_val i (by omega), Int.add_assoc, Int.pow_add, Int.mul_add (256 ^ off), Int.mul_add n, e2]
theorem tally_all (f : Nat → Int) (off m : Nat) (b : List Int) (n : Int) (hm : off + b.length ≤ m) : sumV (tallyF f off b n b.length) m = sumV f m + n * (256 ^ off * val b) := by
  rw [sumV_tally f off m b n _ (Nat.le_refl _) hm, List.take_length]
/-- How great a column may be. -/
def Lim (M : Int) (f : Nat → Int) : Prop := ∀ j, -M ≤ f j ∧ f j ≤ M
theorem lim_zero {M : Int} (h : 0 ≤ M) : Lim M (fun _ => 0) := fun _ => by
  show -M ≤ (0 : Int) ∧ (0 : Int) ≤ M
  omega
theorem Lim.mono {M N : Int} {f : Nat → Int} (h : Lim M f) (hm : M ≤ N) : Lim N f := fun j => by have := h j; omega
theorem mul_dgt {n K : Int} {b : List Int} (hb : Bytes b) (hn : -K ≤ n ∧ n ≤ K) (j : Nat) : -(255 * K) ≤ n * dgt b j ∧ n * dgt b j ≤ 255 * K := by
  have h := dgt_rng hb j
  have h0 : 0 ≤ K := by omega
  have h1 : n * dgt b j ≤ K * dgt b j := Int.mul_le_mul_of_nonneg_right hn.2 h.1
  have h2 : -K * dgt b j ≤ n * dgt b j := Int.mul_le_mul_of_nonneg_right hn.1 h.1
  have h3 : K * dgt b j ≤ K * 255 := Int.mul_le_mul_of_nonneg_left h.2 h0
  rw [Int.neg_mul] at h2
  omega
theorem lim_tally {M K : Int} {f : Nat → Int} {off : Nat} {b : List Int} {n : Int} {i : Nat} (h : Lim M f) (hb : Bytes b) (hn : -K ≤ n ∧ n ≤ K) : Lim (M + 255 * K) (tallyF f off b n i) := fun j => by
  have h1 := h j
  have h2 := mul_dgt hb hn (j - off)
  unfold tallyF
  split <;> omega

/-! Carries. -/
def padF (f : Nat → Int) (m : Nat) : Nat → Int := fun j => if j < m then f j else 0
theorem sumV_pad (f : Nat → Int) (m : Nat) : ∀ k, sumV (padF f m) (m + k) = sumV f m
  | 0 => sumV_congr _ fun j hj => by unfold padF; rw [if_pos (by omega)]
  | k + 1 => by
    show sumV (padF f m) (m + k) + padF f m (m + k) * 256 ^ (m + k) = _
    rw [sumV_pad f m k]
    unfold padF
    rw [if_neg (by omega)]
    omega
theorem sumV_lim {M : Int} {f : Nat → Int} (h0 : 0 ≤ M) (h : Lim M f) : ∀ k, -(M * 256 ^ k) ≤ sumV f k ∧ sumV f k ≤ M * 256 ^ k
  | 0 => by simp [sumV]; omega
  | k + 1 => by
    obtain ⟨h1, h2⟩ := sumV_lim h0 h k
    have h3 := h k
    have h4 := pow_pos256 k
    have h5 : f k * 256 ^ k ≤ M * 256 ^ k := Int.mul_le_mul_of_nonneg_right h3.2 (Int.le_of_lt h4)
    have h6 : -M * 256 ^ k ≤ f k * 256 ^ k := Int.mul_le_mul_of_nonneg_right h3.1 (Int.le_of_lt h4)
    have h7 : 0 ≤ M * 256 ^ k := Int.mul_nonneg h0 (Int.le_of_lt h4)
    rw [Int.neg_mul] at h6
    simp only [sumV, Int.pow_succ, ← Int.mul_assoc]
    omega
/-- The place of one digit. -/
theorem carry_step {f h : Nat → Int} {i : Nat} {c t : Int} {S : Int} (hS : sumV h i + 256 ^ i * c = sumV f i) (ht : t = c + f i) :
    sumV (fun j => if j = i then t % 256 else h j) (i + 1) + 256 ^ (i + 1) * (t / 256) = sumV f (i + 1) := by
  have e1 : sumV (fun j => if j = i then t % 256 else h j) i = sumV h i := sumV_congr _ fun j hj => if_neg (by omega)
  have e2 : sumV (fun j => if j = i then t % 256 else h j) (i + 1) = sumV h i + t % 256 * 256 ^ i := by
    show sumV (fun j => if j = i then t % 256 else h j) i + (if i = i then t % 256 else h i) * 256 ^ i = _
    rw [e1, if_pos rfl]
  have e3 : sumV f (i + 1) = sumV f i + f i * 256 ^ i := rfl
  have e4 : t = t % 256 + 256 * (t / 256) := by omega
  have e5 : t * 256 ^ i = t % 256 * 256 ^ i + 256 * (t / 256) * 256 ^ i := by rw [← Int.add_mul, ← e4]
  have e6 : t * 256 ^ i = 256 ^ i * c + f i * 256 ^ i := by rw [ht, Int.add_mul, Int.mul_comm c]
  have e7 : 256 ^ i * 256 * (t / 256) = 256 * (t / 256) * 256 ^ i := by rw [Int.mul_comm (256 ^ i) 256, Int.mul_assoc, Int.mul_comm (256 ^ i), ← Int.mul_assoc]
  rw [e2, e3, Int.pow_succ, e7]
  omega
theorem carry_small {M c x : Int} (hM : 0 ≤ M) (hc : -M ≤ c ∧ c ≤ M) (hx : -M ≤ x ∧ x ≤ M) : -M ≤ (c + x) / 256 ∧ (c + x) / 256 ≤ M := by omega
theorem carry_end {V c H P : Int} (h : H + P * c = V) (h0 : 0 ≤ H) (h1 : H < P) (l : -P ≤ V) (u : V < P) : (c < 0 ↔ V < 0) ∧ (¬ V < 0 → V = H) := by
  have hP : 0 < P := by omega
  have hc1 : c < 1 := by
    refine Int.lt_of_not_ge fun hc => ?_
    have : P * 1 ≤ P * c := Int.mul_le_mul_of_nonneg_left hc (Int.le_of_lt hP)
    omega
  by_cases hc : c < 0
  · have : P * c ≤ P * (-1) := Int.mul_le_mul_of_nonneg_left (by omega) (Int.le_of_lt hP)
    exact ⟨⟨fun _ => by omega, fun _ => hc⟩, fun h => by omega⟩
  · obtain rfl : c = 0 := by omega
    rw [Int.mul_zero] at h
    exact ⟨⟨fun h => by omega, fun h => by omega⟩, fun _ => by omega⟩

/-! By the leading bytes. -/
theorem bare_drop : ∀ {xs : List Int} (k : Nat), Bare xs → Bare (xs.drop k)
  | _, 0, h => h
  | [], k + 1, _ => by intro d hd; simp at hd
  | [d], k + 1, _ => by intro e he; simp at he
  | d :: e :: r, k + 1, h => bare_drop (xs := e :: r) k (bare_tail h (by simp))
theorem guess_times {VA VB a0 b0 P x y y' k : Int} (hA : VA = a0 + P * x) (hB : VB = b0 + P * y) (ha : 0 ≤ a0) (hP : 0 < P) (hb0 : 0 ≤ b0) (hx : 0 ≤ x) (hy : VB ≤ P * y') (hy0 : 0 < y') (hle : VB ≤ VA) (hlt : VA < 256 * VB) (hVB : 0 < VB)
    (hk : k = if x / y' < 1 then 1 else x / y') : 1 ≤ k ∧ k * VB ≤ VA ∧ k ≤ 255 := by
  have h1 : k * VB ≤ VA := by
    by_cases h : x / y' < 1
    · rw [if_pos h] at hk; rw [hk]; omega
    · rw [if_neg h] at hk
      have hq : x / y' * y' ≤ x := Int.ediv_mul_le x (by omega)
      have hq0 : 0 ≤ x / y' := by omega
      have s1 : x / y' * VB ≤ x / y' * (P * y') := Int.mul_le_mul_of_nonneg_left hy hq0
      have s2 : P * (x / y' * y') ≤ P * x := Int.mul_le_mul_of_nonneg_left hq (Int.le_of_lt hP)
      have s3 : x / y' * (P * y') = P * (x / y' * y') := Int.mul_left_comm _ _ _
      rw [hk]; omega
  refine ⟨by split at hk <;> omega, h1, ?_⟩
  have : k < 256 := by
    refine Int.lt_of_not_ge fun hc => ?_
    have : 256 * VB ≤ k * VB := Int.mul_le_mul_of_nonneg_right hc (Int.le_of_lt hVB)
    omega
  omega
theorem digs_less {A B : List Int} (hA : A = dig (val A).toNat) (bA : Bytes A) (bB : Bytes B) (h : val A < 256 * val B) : A.length ≤ B.length + 1 := by
  have h1 := val_lt bB
  have h2 := val_nonneg bA
  rw [hA, dig_len, Int.toNat_of_nonneg h2, Int.pow_succ]
  omega
theorem digs_more {A B : List Int} (bA : Bytes A) (hB : B = dig (val B).toNat) (bB : Bytes B) (h : val B ≤ val A) : B.length ≤ A.length := by
  have h1 := val_lt bA
  have h2 := val_nonneg bB
  rw [hB, dig_len, Int.toNat_of_nonneg h2]
  omega
/-- What a guess goes by. -/
structure Gs (A B : List Int) (fr : Nat) (x y : Int) : Prop where
  fa : fr ≤ A.length
  fb : fr ≤ B.length
  ia : intB (A.drop fr) = true
  ib : intB (B.drop fr) = true
  va : intV (A.drop fr) = x
  vb : intV (B.drop fr) = y
  x0 : 0 ≤ x
  xs : x < 256 ^ 7
  y0 : 0 < y
  ys : y < 256 ^ 6
  times : ∀ k : Int, (k = if x / (if 0 < fr then y + 1 else y) < 1 then 1 else x / (if 0 < fr then y + 1 else y)) → 1 ≤ k ∧ k * val B ≤ val A ∧ k ≤ 255
theorem int_small {xs : List Int} (hb : Bytes xs) (hr : Bare xs) (hl : xs.length ≤ 7) : intB xs = true ∧ intV xs = val xs := by
  have h1 := val_lt hb
  have h2 := val_nonneg hb
  have h3 : (256 : Int) ^ xs.length ≤ 256 ^ 7 := by
    have : ∀ n, n ≤ 7 → (256 : Int) ^ n ≤ 256 ^ 7 := by decide
    exact this _ hl
  have h4 : val xs < 72057594037927936 := Int.lt_of_lt_of_le h1 h3
  have e : intB xs = true := by
    unfold intB
    rw [Bool.and_eq_true]
    refine ⟨?_, by simp; omega⟩
    rw [← dig_val hb hr]
    exact right_dig (by
      rw [Int.toNat_of_nonneg h2]
      have : (72057594037927936 : Int) < 256 ^ 400 := by decide +kernel
      omega)
  exact ⟨e, by unfold intV; rw [if_pos e]⟩
theorem gs_any {A B : List Int} (bA : Bytes A) (bB : Bytes B) (rA : Bare A) (rB : Bare B) (hB : B ≠ []) (hle : val B ≤ val A) (hlt : val A < 256 * val B) :
    ∃ x y, Gs A B (B.length - 6) x y := by
  obtain ⟨fr, hfr⟩ : ∃ fr, B.length - 6 = fr := ⟨_, rfl⟩
  rw [hfr]
  have dA := (dig_val bA rA).symm
  have dB := (dig_val bB rB).symm
  have l1 := digs_less dA bA bB hlt
  have l2 := digs_more bA dB bB hle
  have hB0 : 0 < B.length := List.length_pos_iff.2 hB
  have a1 := val_cut A fr (by omega)
  have b1 := val_cut B fr (by omega)
  have ka : (A.drop fr).length ≤ 7 := by rw [List.length_drop]; omega
  have kb : (B.drop fr).length ≤ 6 := by rw [List.length_drop]; omega
  have ia := int_small (drop_bytes bA fr) (bare_drop fr rA) ka
  have ib := int_small (drop_bytes bB fr) (bare_drop fr rB) (by omega)
  have xa := val_nonneg (drop_bytes bA fr)
  have yb := bare_pos (drop_bytes bB fr) (bare_drop fr rB) (by rw [ne_eq, List.drop_eq_nil_iff]; omega)
  have xl := val_lt (drop_bytes bA fr)
  have yl := val_lt (drop_bytes bB fr)
  have pw : ∀ n, n ≤ 7 → (256 : Int) ^ n ≤ 256 ^ 7 := by decide
  have pw6 : ∀ n, n ≤ 6 → (256 : Int) ^ n ≤ 256 ^ 6 := by decide
  have ta := val_nonneg (take_bytes bA fr)
  have tb := val_nonneg (take_bytes bB fr)
  have tl := val_lt (take_bytes bB fr)
  have el : (B.take fr).length = fr := by rw [List.length_take]; omega
  rw [el] at tl
  have hVB := bare_pos bB rB hB
  refine ⟨val (A.drop fr), val (B.drop fr), by omega, by omega, ia.1, ib.1, ia.2, ib.2, xa, Int.lt_of_lt_of_le xl (pw _ ka), yb, Int.lt_of_lt_of_le yl (pw6 _ kb), fun k hk => ?_⟩
  refine guess_times (y' := if 0 < fr then val (B.drop fr) + 1 else val (B.drop fr)) a1 b1 ta (pow_pos256 fr) tb xa ?_ (by split <;> omega) hle hlt hVB hk
  by_cases h : 0 < fr
  · rw [if_pos h, Int.mul_add]; omega
  · obtain rfl : fr = 0 := by omega
    rw [if_neg h]
    simp [val] at b1 tl ⊢
end Go.Proofs.YtbfacdfmanffdaaGreatDoor
