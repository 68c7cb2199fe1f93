/- Of no program: the runs of those that are taken rise, do not touch, begin at one that is taken, end ahead of one that is not, and have together as many as are taken. -/
import Derived.Test.YtdhodglbhfjfaaaDoorSets
namespace Go.Proofs.YtdhodglbhfjfaaaDoor

/-- How many all runs have together. -/
def sumL : List (Nat × Nat) → Nat
  | [] => 0
  | p :: R => p.2 + sumL R
theorem sumL_append : ∀ (A B : List (Nat × Nat)), sumL (A ++ B) = sumL A + sumL B
  | [], B => by simp [sumL]
  | p :: A, B => by simp only [List.cons_append, sumL]; rw [sumL_append A B]; omega
theorem sumL_take_le (R : List (Nat × Nat)) (k : Nat) : sumL (R.take k) ≤ sumL R := by
  have h := sumL_append (R.take k) (R.drop k)
  rw [List.take_append_drop] at h
  omega
theorem sumL_take_succ (R : List (Nat × Nat)) (k s l : Nat) (h : R[k]? = some (s, l)) : sumL (R.take (k + 1)) = sumL (R.take k) + l := by
  rw [List.take_add_one, h, sumL_append]
  simp [sumL]

/-- A run as it has to be. -/
def RunOk (S : Nat → Bool) (n s l : Nat) : Prop := 1 ≤ l ∧ s + l ≤ n ∧ S s = true ∧ S (s + l) = false

theorem runsF_ok (S : Nat → Bool) (n : Nat) (ho : ∀ i, n ≤ i → S i = false) : ∀ f i, i ≤ n → n ≤ i + f → (i < n → S i = true) →
    (∀ k s l, (runsF S n f i)[k]? = some (s, l) → RunOk S n s l ∧ (k = 0 → s = i)) ∧
    (∀ k s l s' l', (runsF S n f i)[k]? = some (s', l') → (runsF S n f i)[k + 1]? = some (s, l) → s' + l' < s) ∧ sumL (runsF S n f i) = cnt S i (n - i)
  | 0, i, h1, h2, _ => by
    have : n - i = 0 := by omega
    rw [this]
    refine ⟨fun k s l h => by simp [runsF] at h, fun k s l s' l' h => by simp [runsF] at h, rfl⟩
  | f + 1, i, h1, h2, h3 => by
    simp only [runsF]
    by_cases hi : i < n
    · rw [if_pos hi]
      obtain ⟨a1, a2, a3, a4⟩ := nxt_is S false n i h1
      have hSi := h3 hi
      have hie : i < nxt S false n i := by
        rcases Nat.lt_or_ge i (nxt S false n i) with h | h
        · exact h
        · have e : nxt S false n i = i := by omega
          rw [e] at a4
          rw [a4 hi] at hSi; cases hSi
      have hSe : S (nxt S false n i) = false := by
        rcases Nat.lt_or_ge (nxt S false n i) n with h | h
        · exact a4 h
        · exact ho _ h
      obtain ⟨b1, b2, b3, b4⟩ := nxt_is S true n (nxt S false n i) a2
      generalize nxt S false n i = e at a1 a2 a3 hie hSe b1 b2 b3 b4
      generalize nxt S true n e = j at b1 b2 b3 b4
      obtain ⟨r1, r2, r3⟩ := runsF_ok S n ho f j b2 (by omega) b4
      have hej : j < n → e < j := fun h => by
        rcases Nat.lt_or_ge e j with h' | h'
        · exact h'
        · have : e = j := by omega
          rw [this, b4 h] at hSe; cases hSe
      refine ⟨fun k s l h => ?_, fun k s l s' l' h h' => ?_, ?_⟩
      · cases k with
        | zero =>
          simp at h
          obtain ⟨rfl, rfl⟩ := h
          exact ⟨⟨by omega, by omega, hSi, by rw [show i + (e - i) = e by omega]; exact hSe⟩, fun _ => rfl⟩
        | succ k => exact ⟨(r1 k s l (by simpa using h)).1, fun h => by omega⟩
      · cases k with
        | zero =>
          simp at h
          obtain ⟨rfl, rfl⟩ := h
          obtain ⟨c1, c2⟩ := r1 0 s l (by simpa using h')
          have : s = j := c2 rfl
          obtain ⟨d1, d2, _⟩ := c1
          have := hej (by omega)
          omega
        | succ k => exact r2 k s l s' l' (by simpa using h) (by simpa using h')
      · simp only [sumL]
        rw [r3, show n - i = (e - i) + ((j - e) + (n - j)) by omega, cnt_add, cnt_add, show i + (e - i) = e by omega, show e + (j - e) = j by omega]
        rw [cnt_all (c := e - i) (fun k hk => by have := a3 (i + k) (by omega) (by omega); simpa using this), cnt_none (c := j - e) (fun k hk => by have := b3 (e + k) (by omega) (by omega); simpa using this)]
        omega
    · rw [if_neg hi]
      have : n - i = 0 := by omega
      rw [this]
      exact ⟨fun k s l h => by simp at h, fun k s l s' l' h => by simp at h, rfl⟩

theorem runs_ok (S : Nat → Bool) (n : Nat) (ho : ∀ i, n ≤ i → S i = false) : (∀ (k s l : Nat), (runs S n)[k]? = some (s, l) → RunOk S n s l) ∧
    (∀ (k s l s' l' : Nat), (runs S n)[k]? = some (s', l') → (runs S n)[k + 1]? = some (s, l) → s' + l' < s) ∧ sumL (runs S n) = cnt S 0 n := by
  obtain ⟨b1, b2, b3, b4⟩ := nxt_is S true n 0 (by omega)
  obtain ⟨r1, r2, r3⟩ := runsF_ok S n ho n (nxt S true n 0) b2 (by omega) b4
  refine ⟨fun k s l h => (r1 k s l h).1, r2, ?_⟩
  show sumL (runsF S n n (nxt S true n 0)) = _
  rw [r3]
  generalize nxt S true n 0 = j at b2 b3
  have h := cnt_add S 0 j (n - j)
  rw [show j + (n - j) = n by omega, cnt_none (c := j) (fun k hk => by have := b3 (0 + k) (by omega) (by omega); simpa using this), Nat.zero_add, Nat.zero_add] at h
  exact h.symm
end Go.Proofs.YtdhodglbhfjfaaaDoor
