/- Plain facts on the free words of a heap: where there is room first, how many are free, how many side by side. No program is spoken of. -/
import Derived.Test.YtgfjfpfhalblgaaHMa
namespace Go.Proofs.Ytgfjfpfhalblgaa

/-- The first place a from which on q words of n are free, if any. -/
def FirstF (V : Nat → Int) (n q a : Nat) (ok : Bool) : Prop :=
  (ok = true ∧ a + q ≤ n ∧ (∀ j, j < q → V (a + j) = -1) ∧ ∀ b, b < a → ∃ j, j < q ∧ V (b + j) ≠ -1) ∨ (ok = false ∧ a = 0 ∧ ∀ b, b + q ≤ n → ∃ j, j < q ∧ V (b + j) ≠ -1)
theorem FirstF.eq {V : Nat → Int} {n q a b : Nat} {s t : Bool} (h : FirstF V n q a s) (k : FirstF V n q b t) : a = b ∧ s = t := by
  rcases h with ⟨rfl, h1, h2, h3⟩ | ⟨rfl, rfl, h1⟩
  · rcases k with ⟨rfl, k1, k2, k3⟩ | ⟨rfl, rfl, k1⟩
    · refine ⟨?_, rfl⟩
      rcases Nat.lt_trichotomy a b with h | h | h
      · obtain ⟨j, hj, hv⟩ := k3 a h; exact absurd (h2 j hj) hv
      · exact h
      · obtain ⟨j, hj, hv⟩ := h3 b h; exact absurd (k2 j hj) hv
    · obtain ⟨j, hj, hv⟩ := k1 a h1; exact absurd (h2 j hj) hv
  · rcases k with ⟨rfl, k1, k2, k3⟩ | ⟨rfl, rfl, _⟩
    · obtain ⟨j, hj, hv⟩ := h1 b k1; exact absurd (k2 j hj) hv
    · exact ⟨rfl, rfl⟩

def cntF (V : Nat → Int) : Nat → Nat
  | 0 => 0
  | n + 1 => cntF V n + if V n = -1 then 1 else 0
theorem cntF_le (V : Nat → Int) (n : Nat) : cntF V n ≤ n := by
  induction n with
  | zero => exact Nat.le_refl _
  | succ n ih => simp only [cntF]; split <;> omega
theorem cntF_congr {V V' : Nat → Int} : ∀ {n : Nat}, (∀ i, i < n → (V i = -1 ↔ V' i = -1)) → cntF V n = cntF V' n
  | 0, _ => rfl
  | n + 1, h => by
    simp only [cntF]
    rw [cntF_congr (n := n) fun i hi => h i (by omega)]
    have := h n (by omega)
    by_cases h1 : V n = -1
    · rw [if_pos h1, if_pos (this.1 h1)]
    · rw [if_neg h1, if_neg fun e => h1 (this.2 e)]
theorem cntF_tight {V : Nat → Int} {t : Nat} : ∀ {n : Nat}, (∀ i, i < n → (V i = -1 ↔ t ≤ i)) → cntF V n = n - t
  | 0, _ => by simp [cntF]
  | n + 1, h => by
    simp only [cntF]
    rw [cntF_tight (n := n) fun i hi => h i (by omega)]
    have := h n (by omega)
    by_cases h1 : V n = -1
    · rw [if_pos h1]; have := this.1 h1; omega
    · rw [if_neg h1]; have : ¬ t ≤ n := fun e => h1 (this.2 e); omega
/-- The free words among those of a block more. -/
theorem cntF_block {V V' : Nat → Int} {a l : Nat} : ∀ {n : Nat}, (∀ i, i < n → (V' i = -1 ↔ V i = -1 ∧ ¬ (a ≤ i ∧ i < a + l))) → (∀ i, a ≤ i → i < a + l → V i = -1) → cntF V' n + (min (a + l) n - min a n) = cntF V n
  | 0, _, _ => by simp [cntF]
  | n + 1, h, hb => by
    have ih := cntF_block (n := n) (fun i hi => h i (by omega)) hb
    have hn := h n (by omega)
    simp only [cntF]
    by_cases h1 : a ≤ n ∧ n < a + l
    · have := hb n h1.1 h1.2
      rw [if_pos this, if_neg fun e => (hn.1 e).2 h1]
      omega
    · by_cases h2 : V n = -1
      · rw [if_pos h2, if_pos (hn.2 ⟨h2, h1⟩)]; omega
      · rw [if_neg h2, if_neg fun e => h2 (hn.1 e).1]; omega
/-- How many words all blocks have. -/
def totB : List (Option Bk) → Nat
  | [] => 0
  | none :: r => totB r
  | some b :: r => b.ws.length + totB r
theorem good_tail {n : Nat} {o : Option Bk} {r : List (Option Bk)} (h : GoodB n (o :: r)) : GoodB n r :=
  ⟨fun k b hb => h.fits (k + 1) b (by rw [look_succ]; exact hb), fun k b hb => h.zero (k + 1) b (by rw [look_succ]; exact hb),
   fun i j bi bj p hij hi hj => h.apart (i + 1) (j + 1) bi bj p (by omega) (by rw [look_succ]; exact hi) (by rw [look_succ]; exact hj), fun k b hb => h.w16 (k + 1) b (by rw [look_succ]; exact hb)⟩
theorem cnt_tot {n : Nat} : ∀ {B : List (Option Bk)}, GoodB n B → cntF (wordAt B) n + totB B = n
  | [], _ => by
    have : cntF (wordAt []) n = n - 0 := cntF_tight fun i _ => ⟨fun _ => Nat.zero_le _, fun _ => rfl⟩
    simp only [totB]; omega
  | none :: r, h => by
    have := cnt_tot (good_tail h)
    rw [show cntF (wordAt (none :: r)) n = cntF (wordAt r) n from cntF_congr fun i _ => Iff.rfl]
    exact this
  | some b :: r, h => by
    have ih := cnt_tot (good_tail h)
    have hf := h.fits 0 b rfl
    have := cntF_block (V := wordAt r) (V' := wordAt (some b :: r)) (a := b.a) (l := b.ws.length) (n := n) (fun i _ => ?_) (fun i h1 h2 => ?_)
    · simp only [totB]; omega
    · simp only [wordAt]
      by_cases hi : inB b i = true
      · rw [if_pos hi]
        have hnn := h.nn (k := 0) rfl hi
        simp only [wordAt, if_pos hi] at hnn
        exact ⟨fun e => by omega, fun e => absurd (inB_iff.1 hi) e.2⟩
      · rw [if_neg hi]
        exact ⟨fun e => ⟨e, fun e2 => hi (inB_iff.2 e2)⟩, fun e => e.1⟩
    · exact (good_tail h).free.2 fun k b' hb' => h.apart 0 (k + 1) b b' i (by omega) rfl (by rw [look_succ]; exact hb') (inB_iff.2 ⟨h1, h2⟩)
/-- How many words the block k has. -/
def lenB (B : List (Option Bk)) (k : Nat) : Nat := match look B k with | some b => b.ws.length | none => 0
theorem lenB_some {B : List (Option Bk)} {k : Nat} {b : Bk} (h : look B k = some b) : lenB B k = b.ws.length := by simp only [lenB, h]
theorem lenB_none {B : List (Option Bk)} {k : Nat} (h : look B k = none) : lenB B k = 0 := by simp only [lenB, h]
theorem tot_eq : ∀ {B B' : List (Option Bk)}, B.length = B'.length → (∀ k, lenB B k = lenB B' k) → totB B = totB B'
  | [], [], _, _ => rfl
  | [], _ :: _, h, _ => by simp at h
  | _ :: _, [], h, _ => by simp at h
  | o :: r, o' :: r', h, hk => by
    have ih : totB r = totB r' := tot_eq (by simpa using h) fun k => by
      have := hk (k + 1)
      simpa only [lenB, look_succ] using this
    have h0 := hk 0
    simp only [lenB, look_zero] at h0
    cases o <;> cases o' <;> simp only [totB] <;> simp only at h0 <;> omega

/-- m words are free side by side, and no more are. -/
def LongIs (V : Nat → Int) (n m : Nat) : Prop := (∃ a, a + m ≤ n ∧ ∀ j, j < m → V (a + j) = -1) ∧ ∀ a, a + (m + 1) ≤ n → ∃ j, j < m + 1 ∧ V (a + j) ≠ -1
theorem long_zero (V : Nat → Int) : LongIs V 0 0 := ⟨⟨0, Nat.le_refl _, fun j hj => by omega⟩, fun a h => by omega⟩
/-- The last r of the first i words are free, and no more. -/
def RunIs (V : Nat → Int) (i r : Nat) : Prop := r ≤ i ∧ (∀ j, i - r ≤ j → j < i → V j = -1) ∧ (r < i → V (i - r - 1) ≠ -1)
theorem run_zero (V : Nat → Int) : RunIs V 0 0 := ⟨Nat.le_refl _, fun j h1 h2 => by omega, fun h => by omega⟩
theorem RunIs.taken {V : Nat → Int} {i : Nat} (h : V i ≠ -1) : RunIs V (i + 1) 0 := ⟨Nat.zero_le _, fun j h1 h2 => by omega, fun _ => h⟩
theorem RunIs.free {V : Nat → Int} {i r : Nat} (hr : RunIs V i r) (h : V i = -1) : RunIs V (i + 1) (r + 1) := by
  obtain ⟨h1, h2, h3⟩ := hr
  refine ⟨by omega, fun j g1 g2 => ?_, fun g => ?_⟩
  · by_cases hj : j = i
    · rw [hj]; exact h
    · exact h2 j (by omega) (by omega)
  · rw [show i + 1 - (r + 1) - 1 = i - r - 1 by omega]; exact h3 (by omega)
theorem LongIs.taken {V : Nat → Int} {i m : Nat} (hl : LongIs V i m) (h : V i ≠ -1) : LongIs V (i + 1) m := by
  obtain ⟨⟨a, h1, h2⟩, h3⟩ := hl
  refine ⟨⟨a, by omega, h2⟩, fun b hb => ?_⟩
  by_cases hi : b + (m + 1) ≤ i
  · exact h3 b hi
  · exact ⟨m, by omega, by rw [show b + m = i by omega]; exact h⟩
theorem LongIs.free {V : Nat → Int} {i m r : Nat} (hl : LongIs V i m) (hr : RunIs V i r) (h : V i = -1) : LongIs V (i + 1) (max m (r + 1)) := by
  obtain ⟨⟨a, h1, h2⟩, h3⟩ := hl
  obtain ⟨g1, g2, g3⟩ := hr
  constructor
  · rcases Nat.le_total (r + 1) m with hm | hm
    · rw [Nat.max_eq_left hm]; exact ⟨a, by omega, h2⟩
    · rw [Nat.max_eq_right hm]
      refine ⟨i - r, by omega, fun j hj => ?_⟩
      by_cases hj2 : i - r + j = i
      · rw [hj2]; exact h
      · exact g2 _ (by omega) (by omega)
  · intro b hb
    by_cases hi : b + (max m (r + 1) + 1) ≤ i
    · obtain ⟨j, hj, hv⟩ := h3 b (by omega)
      exact ⟨j, by omega, hv⟩
    · refine ⟨i - r - 1 - b, by omega, ?_⟩
      rw [show b + (i - r - 1 - b) = i - r - 1 by omega]
      exact g3 (by omega)
theorem LongIs.le {V : Nat → Int} {n m m' : Nat} (h : LongIs V n m) (k : ∃ a, a + m' ≤ n ∧ ∀ j, j < m' → V (a + j) = -1) : m' ≤ m := by
  rcases Nat.lt_or_ge m m' with hlt | hge
  · obtain ⟨a, h1, h2⟩ := k
    obtain ⟨j, hj, hv⟩ := h.2 a (by omega)
    exact absurd (h2 j (by omega)) hv
  · exact hge
theorem LongIs.eq {V : Nat → Int} {n m m' : Nat} (h : LongIs V n m) (k : LongIs V n m') : m = m' := Nat.le_antisymm (k.le h.1) (h.le k.1)
theorem cntF_run {V : Nat → Int} : ∀ {n a m : Nat}, a + m ≤ n → (∀ j, j < m → V (a + j) = -1) → m ≤ cntF V n
  | 0, a, m, h, _ => by omega
  | n + 1, a, m, h, hv => by
    simp only [cntF]
    by_cases h1 : a + m ≤ n
    · have := cntF_run h1 hv; omega
    · rcases Nat.eq_zero_or_pos m with rfl | hm
      · omega
      · have h2 := cntF_run (n := n) (a := a) (m := m - 1) (by omega) fun j hj => hv j (by omega)
        have h3 := hv (m - 1) (by omega)
        rw [show a + (m - 1) = n by omega] at h3
        rw [if_pos h3]; omega
theorem LongIs.cnt {V : Nat → Int} {n m : Nat} (h : LongIs V n m) : m ≤ cntF V n := by
  obtain ⟨⟨a, h1, h2⟩, _⟩ := h
  exact cntF_run h1 h2
theorem long_tight {V : Nat → Int} {n t : Nat} (h : ∀ i, i < n → (V i = -1 ↔ t ≤ i)) (ht : t ≤ n) : LongIs V n (n - t) := by
  refine ⟨⟨t, by omega, fun j hj => (h _ (by omega)).2 (by omega)⟩, fun a ha => ⟨0, by omega, fun e => ?_⟩⟩
  have := (h a (by omega)).1 (by simpa using e)
  omega
end Go.Proofs.Ytgfjfpfhalblgaa
