/- A clock as plain functions, no worlds: what the search for a victim finds. -/
namespace Go.Proofs.Ytechbageefmclaa

/-- An element: touched, pinned, present. -/
structure El where
  t : Bool
  p : Bool
  i : Bool
/-- f, but for k. -/
def upd {α : Type} (f : Nat → α) (k : Nat) (v : α) : Nat → α := fun j => if j = k then v else f j
theorem upd_at {α : Type} (f : Nat → α) (k : Nat) (v : α) : upd f k v k = v := if_pos rfl
theorem upd_ne {α : Type} (f : Nat → α) {k j : Nat} (v : α) (h : j ≠ k) : upd f k v j = f j := if_neg h
theorem upd_same {α : Type} (f : Nat → α) (k : Nat) : upd f k (f k) = f := by
  funext j
  by_cases h : j = k
  · rw [h, upd_at]
  · rw [upd_ne _ _ h]
/-- An element that may go: present, not pinned. -/
def goes (e : El) : Bool := e.i && !e.p
/-- One that goes at once. -/
def hit (e : El) : Bool := goes e && !e.t
/-- The element at h has been considered. -/
def look (E : Nat → El) (h : Nat) : Nat → El := if goes (E h) then upd E h ⟨false, (E h).p, (E h).i⟩ else E
/-- The search, over so many elements: who goes, the elements then, the hand then. -/
def vic (n : Nat) : Nat → (Nat → El) → Nat → Option Nat × (Nat → El) × Nat
  | 0, E, h => (none, E, h)
  | k + 1, E, h => if hit (E h) then (some h, E, (h + 1) % n) else vic n k (look E h) ((h + 1) % n)
theorem vic_hit {n k h : Nat} {E : Nat → El} (hh : hit (E h) = true) : vic n (k + 1) E h = (some h, E, (h + 1) % n) := by
  rw [vic, if_pos hh]
theorem vic_miss {n k h : Nat} {E : Nat → El} (hh : hit (E h) = false) : vic n (k + 1) E h = vic n k (look E h) ((h + 1) % n) := by
  rw [vic, if_neg (by rw [hh]; simp)]
theorem look_p (E : Nat → El) (h j : Nat) : (look E h j).p = (E j).p := by
  unfold look
  split
  · by_cases hj : j = h
    · rw [hj, upd_at]
    · rw [upd_ne _ _ hj]
  · rfl
theorem look_i (E : Nat → El) (h j : Nat) : (look E h j).i = (E j).i := by
  unfold look
  split
  · by_cases hj : j = h
    · rw [hj, upd_at]
    · rw [upd_ne _ _ hj]
  · rfl
theorem look_ne (E : Nat → El) {h j : Nat} (hj : j ≠ h) : look E h j = E j := by
  unfold look
  split
  · rw [upd_ne _ _ hj]
  · rfl
theorem look_goes (E : Nat → El) (h j : Nat) : goes (look E h j) = goes (E j) := by unfold goes; rw [look_p, look_i]
theorem look_id {E : Nat → El} {h : Nat} (hg : goes (E h) = false) : look E h = E := by unfold look; rw [if_neg (by rw [hg]; simp)]
theorem look_hit {E : Nat → El} {h : Nat} (hg : goes (E h) = true) : hit (look E h h) = true := by
  unfold hit
  rw [look_goes, hg]
  unfold look
  rw [if_pos hg, upd_at]; rfl
/-- Nothing but touches is ended. -/
theorem vic_keeps {n : Nat} : ∀ (k : Nat) (E : Nat → El) (h j : Nat), ((vic n k E h).2.1 j).p = (E j).p ∧ ((vic n k E h).2.1 j).i = (E j).i := by
  intro k
  induction k with
  | zero => intro E h j; exact ⟨rfl, rfl⟩
  | succ k ih =>
    intro E h j
    by_cases hh : hit (E h) = true
    · rw [vic_hit hh]; exact ⟨rfl, rfl⟩
    · rw [vic_miss (by simpa using hh)]
      have := ih (look E h) ((h + 1) % n) j
      rwa [look_p, look_i] at this
theorem vic_goes {n k h : Nat} {E E' : Nat → El} {r : Option Nat} {h' : Nat} (hv : vic n k E h = (r, E', h')) (j : Nat) : goes (E' j) = goes (E j) := by
  have := vic_keeps (n := n) k E h j
  rw [hv] at this
  unfold goes
  rw [this.1, this.2]
theorem mod_lt' {n : Nat} (a : Nat) (h : 0 < n) : a % n < n := Nat.mod_lt _ h
/-- Who is found goes at once. -/
theorem vic_some {n : Nat} (hn : 0 < n) : ∀ (k : Nat) (E : Nat → El) (h v : Nat) (E' : Nat → El) (h' : Nat), h < n → vic n k E h = (some v, E', h') → v < n ∧ hit (E' v) = true ∧ h' = (v + 1) % n := by
  intro k
  induction k with
  | zero => intro E h v E' h' _ hv; exact absurd (congrArg (fun x => x.1) hv) (by simp [vic])
  | succ k ih =>
    intro E h v E' h' hh hv
    by_cases hh' : hit (E h) = true
    · rw [vic_hit hh'] at hv
      simp only [Prod.mk.injEq, Option.some.injEq] at hv
      obtain ⟨rfl, rfl, rfl⟩ := hv
      exact ⟨hh, hh', rfl⟩
    · rw [vic_miss (by simpa using hh')] at hv
      exact ih _ _ _ _ _ (Nat.mod_lt _ hn) hv
theorem vic_hand {n : Nat} (hn : 0 < n) : ∀ (k : Nat) (E : Nat → El) (h : Nat), h < n → (vic n k E h).2.2 < n := by
  intro k
  induction k with
  | zero => intro E h hh; exact hh
  | succ k ih =>
    intro E h hh
    by_cases hh' : hit (E h) = true
    · rw [vic_hit hh']; exact Nat.mod_lt _ hn
    · rw [vic_miss (by simpa using hh')]; exact ih _ _ (Nat.mod_lt _ hn)
theorem step_mod (h d n : Nat) : ((h + 1) % n + d) % n = (h + (d + 1)) % n := by
  rw [Nat.mod_add_mod]; congr 1; omega
/-- One that goes at once within reach: somebody is found. -/
theorem vic_finds {n : Nat} : ∀ (k : Nat) (E : Nat → El) (h d : Nat), h < n → d < k → hit (E ((h + d) % n)) = true → ∃ v, (vic n k E h).1 = some v := by
  intro k
  induction k with
  | zero => intro E h d _ hd; omega
  | succ k ih =>
    intro E h d hh hd ht
    by_cases hh' : hit (E h) = true
    · rw [vic_hit hh']; exact ⟨h, rfl⟩
    · rw [vic_miss (by simpa using hh')]
      cases d with
      | zero => rw [Nat.add_zero, Nat.mod_eq_of_lt hh] at ht; exact absurd ht hh'
      | succ d =>
        refine ih _ _ d (Nat.mod_lt _ (by omega)) (by omega) ?_
        rw [step_mod, look_ne]
        · exact ht
        · intro e; rw [e] at ht; exact hh' ht
/-- One that may go: somebody is found in two rounds. -/
theorem vic_two {n : Nat} : ∀ (d k : Nat) (E : Nat → El) (h : Nat), h < n → d + n < k → goes (E ((h + d) % n)) = true → ∃ v, (vic n k E h).1 = some v := by
  intro d
  induction d with
  | zero =>
    intro k E h hh hk hg
    rw [Nat.add_zero, Nat.mod_eq_of_lt hh] at hg
    obtain ⟨k, rfl⟩ : ∃ q, k = q + 1 := ⟨k - 1, by omega⟩
    by_cases hh' : hit (E h) = true
    · rw [vic_hit hh']; exact ⟨h, rfl⟩
    · rw [vic_miss (by simpa using hh')]
      refine vic_finds k _ _ (n - 1) (Nat.mod_lt _ (by omega)) (by omega) ?_
      rw [step_mod, show h + (n - 1 + 1) = h + n by omega, Nat.add_mod_right, Nat.mod_eq_of_lt hh]
      exact look_hit hg
  | succ d ih =>
    intro k E h hh hk hg
    obtain ⟨k, rfl⟩ : ∃ q, k = q + 1 := ⟨k - 1, by omega⟩
    by_cases hh' : hit (E h) = true
    · rw [vic_hit hh']; exact ⟨h, rfl⟩
    · rw [vic_miss (by simpa using hh')]
      refine ih k _ _ (Nat.mod_lt _ (by omega)) (by omega) ?_
      rw [step_mod, look_goes]
      exact hg
theorem vic_any {n h j : Nat} {E : Nat → El} (hh : h < n) (hj : j < n) (hg : goes (E j) = true) : ∃ v, (vic n (2 * n) E h).1 = some v := by
  by_cases hle : h ≤ j
  · refine vic_two (j - h) (2 * n) E h hh (by omega) ?_
    rw [show h + (j - h) = j by omega, Nat.mod_eq_of_lt hj]; exact hg
  · refine vic_two (j + n - h) (2 * n) E h hh (by omega) ?_
    rw [show h + (j + n - h) = j + n by omega, Nat.add_mod_right, Nat.mod_eq_of_lt hj]; exact hg
/-- Nobody may go: nothing is found, and nothing changes but the hand. -/
theorem vic_none {n : Nat} : ∀ (k : Nat) (E : Nat → El) (h : Nat), h < n → (∀ j, j < n → goes (E j) = false) → vic n k E h = (none, E, (h + k) % n) := by
  intro k
  induction k with
  | zero => intro E h hh _; rw [Nat.add_zero, Nat.mod_eq_of_lt hh]; rfl
  | succ k ih =>
    intro E h hh hg
    have h0 := hg h hh
    have h1 : hit (E h) = false := by unfold hit; rw [h0]; rfl
    rw [vic_miss h1, look_id h0, ih E _ (Nat.mod_lt _ (by omega)) hg, step_mod]
theorem vic_none' {n h : Nat} {E : Nat → El} (hh : h < n ∨ n = 0 ∧ h = 0) (hg : ∀ j, j < n → goes (E j) = false) : vic n (2 * n) E h = (none, E, h) := by
  rcases hh with hh | ⟨rfl, rfl⟩
  · rw [vic_none _ E h hh hg, Nat.two_mul, ← Nat.add_assoc, Nat.add_mod_right, Nat.add_mod_right, Nat.mod_eq_of_lt hh]
  · rfl
/-- The first from the hand on that goes at once. -/
theorem vic_first {n : Nat} : ∀ (k : Nat) (E : Nat → El) (h v : Nat), h ≤ v → v < n → v - h < k → hit (E v) = true → (∀ j, h ≤ j → j < v → hit (E j) = false) →
    ∃ E', vic n k E h = (some v, E', (v + 1) % n) ∧ ∀ j, j < h ∨ v ≤ j → E' j = E j := by
  intro k
  induction k with
  | zero => intro E h v _ _ hk; omega
  | succ k ih =>
    intro E h v hl hv hk ht hno
    by_cases he : h = v
    · subst he
      exact ⟨E, vic_hit ht, fun _ _ => rfl⟩
    · rw [vic_miss (hno h (Nat.le_refl _) (by omega)), Nat.mod_eq_of_lt (by omega : h + 1 < n)]
      obtain ⟨E', h1, h2⟩ := ih (look E h) (h + 1) v (by omega) hv (by omega) (by rw [look_ne _ (by omega)]; exact ht) (fun j hj1 hj2 => by rw [look_ne _ (by omega)]; exact hno j (by omega) hj2)
      exact ⟨E', h1, fun j hj => by rw [h2 j (by omega), look_ne _ (by omega)]⟩

/-! How many. -/
def cnt (f : Nat → Bool) : Nat → Nat
  | 0 => 0
  | n + 1 => cnt f n + (if f n then 1 else 0)
theorem cnt_le (f : Nat → Bool) (n : Nat) : cnt f n ≤ n := by
  induction n with
  | zero => exact Nat.le_refl _
  | succ n ih => unfold cnt; split <;> omega
theorem cnt_congr {f g : Nat → Bool} {n : Nat} (h : ∀ j, j < n → f j = g j) : cnt f n = cnt g n := by
  induction n with
  | zero => rfl
  | succ n ih => unfold cnt; rw [ih fun j hj => h j (by omega), h n (by omega)]
theorem cnt_zero {f : Nat → Bool} {n : Nat} (h : ∀ j, j < n → f j = false) : cnt f n = 0 := by
  induction n with
  | zero => rfl
  | succ n ih => unfold cnt; rw [ih fun j hj => h j (by omega), h n (by omega)]; rfl
theorem cnt_all {f : Nat → Bool} {n : Nat} (h : ∀ j, j < n → f j = true) : cnt f n = n := by
  induction n with
  | zero => rfl
  | succ n ih => unfold cnt; rw [ih fun j hj => h j (by omega), h n (by omega)]; rfl
theorem cnt_none {f : Nat → Bool} {n : Nat} (h : cnt f n = 0) : ∀ j, j < n → f j = false := by
  induction n with
  | zero => intro j hj; omega
  | succ n ih =>
    unfold cnt at h
    intro j hj
    by_cases hjn : j = n
    · subst hjn
      cases hf : f j with
      | false => rfl
      | true => rw [hf] at h; simp at h
    · exact ih (by omega) j (by omega)
theorem cnt_some {f : Nat → Bool} {n : Nat} (h : 0 < cnt f n) : ∃ j, j < n ∧ f j = true := by
  refine Classical.byContradiction fun hx => ?_
  have := cnt_zero (f := f) (n := n) fun j hj => by
    cases hf : f j with
    | false => rfl
    | true => exact absurd ⟨j, hj, hf⟩ hx
  omega
theorem cnt_drop {f g : Nat → Bool} {n v : Nat} (hv : v < n) (h1 : f v = true) (h2 : g v = false) (h : ∀ j, j ≠ v → g j = f j) : cnt f n = cnt g n + 1 := by
  induction n with
  | zero => omega
  | succ n ih =>
    unfold cnt
    by_cases hvn : v = n
    · subst hvn
      rw [h1, h2, cnt_congr (f := f) (g := g) fun j hj => (h j (by omega)).symm]
      simp
    · rw [ih (by omega), h n (by omega)]
      split <;> omega
theorem cnt_two (f g : Nat → Bool) (n : Nat) : cnt (fun j => f j && !g j) n + cnt (fun j => f j && g j) n = cnt f n := by
  induction n with
  | zero => rfl
  | succ n ih =>
    simp only [cnt]
    rw [← ih]
    by_cases hf : f n = true <;> by_cases hg : g n = true <;> simp [hf, hg] <;> omega
/-- The first one from a on. -/
theorem first_from {f : Nat → Bool} {n : Nat} : ∀ (m a : Nat), n - a ≤ m → (∃ j, a ≤ j ∧ j < n ∧ f j = true) → ∃ v, a ≤ v ∧ v < n ∧ f v = true ∧ ∀ j, a ≤ j → j < v → f j = false := by
  intro m
  induction m with
  | zero => intro a hm ⟨j, h1, h2, _⟩; omega
  | succ m ih =>
    intro a hm ⟨j, h1, h2, h3⟩
    cases hf : f a with
    | true => exact ⟨a, Nat.le_refl _, by omega, hf, fun j _ _ => by omega⟩
    | false =>
      have hja : j ≠ a := by intro e; rw [e, hf] at h3; cases h3
      obtain ⟨v, v1, v2, v3, v4⟩ := ih (a + 1) (by omega) ⟨j, by omega, h2, h3⟩
      exact ⟨v, by omega, v2, v3, fun i hi1 hi2 => by
        by_cases hia : i = a
        · rw [hia]; exact hf
        · exact v4 i (by omega) hi2⟩
end Go.Proofs.Ytechbageefmclaa
