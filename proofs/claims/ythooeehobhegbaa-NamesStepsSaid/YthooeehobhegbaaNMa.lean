/- A table of names as plain rows: slots with ids, and entries that are found by trying one place behind the other. No worlds. -/
namespace Go.Proofs.Ythooeehobhegbaa

/-- The place behind the place a, of m. -/
def nx (m a : Nat) : Nat := if a + 1 = m then 0 else a + 1
/-- How many steps the place b is behind the place a, of m. -/
def dst (m a b : Nat) : Nat := if a ≤ b then b - a else b + m - a
theorem nx_lt {m a : Nat} (h : a < m) : nx m a < m := by unfold nx; split <;> omega
theorem nx_mod {m a : Nat} (h : a < m) : (a + 1) % m = nx m a := by
  unfold nx
  split
  · rename_i h1; rw [h1, Nat.mod_self]
  · rw [Nat.mod_eq_of_lt (by omega)]
theorem dst_lt {m a b : Nat} (ha : a < m) (hb : b < m) : dst m a b < m := by unfold dst; split <;> omega
theorem dst_mod {m a b : Nat} (ha : a < m) (hb : b < m) : (b + m - a) % m = dst m a b := by
  unfold dst
  split
  · rw [show b + m - a = b - a + m by omega, Nat.add_mod_right, Nat.mod_eq_of_lt (by omega)]
  · rw [Nat.mod_eq_of_lt (by omega)]
theorem dst_self (m a : Nat) : dst m a a = 0 := by unfold dst; simp
theorem dst_zero {m a b : Nat} (ha : a < m) (_ : b < m) (h : dst m a b = 0) : a = b := by unfold dst at h; split at h <;> omega
theorem dst_inj {m a b c : Nat} (_ha : a < m) (hb : b < m) (hc : c < m) (h : dst m a b = dst m a c) : b = c := by unfold dst at h; split at h <;> split at h <;> omega
theorem nx_end {m a : Nat} (h : a + 1 = m) : nx m a = 0 := if_pos h
theorem nx_in {m a : Nat} (h : a + 1 ≠ m) : nx m a = a + 1 := if_neg h
theorem dst_nx {m a b : Nat} (ha : a < m) (_ : b < m) (h : nx m b ≠ a) : dst m a (nx m b) = dst m a b + 1 := by
  by_cases hm : b + 1 = m
  · rw [nx_end hm] at h ⊢
    unfold dst
    split <;> split <;> omega
  · rw [nx_in hm] at h ⊢
    unfold dst
    split <;> split <;> omega
theorem dst_from {m a b : Nat} (ha : a < m) (hb : b < m) (h : a ≠ b) : dst m (nx m a) b + 1 = dst m a b := by
  by_cases hm : a + 1 = m
  · rw [nx_end hm]
    unfold dst
    split <;> split <;> omega
  · rw [nx_in hm]
    unfold dst
    split <;> split <;> omega
/-- One that goes on towards z from a, and has not come to it, does not come round to a. -/
theorem nx_ne {m a b z : Nat} (ha : a < m) (_ : b < m) (hz : z < m) (hle : dst m a b ≤ dst m a z) (hbz : b ≠ z) : nx m b ≠ a := by
  by_cases hm : b + 1 = m
  · rw [nx_end hm]
    unfold dst at hle
    split at hle <;> split at hle <;> omega
  · rw [nx_in hm]
    unfold dst at hle
    split at hle <;> split at hle <;> omega

/-- f with y at i. -/
def upd {α : Type} (f : Nat → α) (i : Nat) (y : α) : Nat → α := fun j => if j = i then y else f j
theorem upd_at {α : Type} (f : Nat → α) (i : Nat) (y : α) : upd f i y i = y := if_pos rfl
theorem upd_ne {α : Type} (f : Nat → α) {i j : Nat} (y : α) (h : j ≠ i) : upd f i y j = f j := if_neg h

/-- More places than values: two have the same. -/
theorem pigeon : ∀ (n m : Nat) (f : Nat → Nat), (∀ p, p < m → 1 ≤ f p ∧ f p ≤ n) → (∀ p q, p < m → q < m → f p = f q → p = q) → m ≤ n := by
  intro n
  induction n with
  | zero =>
    intro m f h _
    rcases Nat.eq_zero_or_pos m with h0 | h0
    · omega
    · have := h 0 h0; omega
  | succ n ih =>
    intro m f h hi
    by_cases hp : ∃ p, p < m ∧ f p = n + 1
    · obtain ⟨p, hp, hfp⟩ := hp
      have key := ih (m - 1) (fun q => if q = p then f (m - 1) else f q) (fun q hq => by
        have h1 := h q (by omega)
        have h2 := h (m - 1) (by omega)
        show 1 ≤ (if q = p then f (m - 1) else f q) ∧ (if q = p then f (m - 1) else f q) ≤ n
        split
        · rename_i hqp
          subst hqp
          by_cases h3 : f (m - 1) = n + 1
          · have := hi (m - 1) q (by omega) hp (h3.trans hfp.symm); omega
          · omega
        · rename_i hqp
          by_cases h3 : f q = n + 1
          · exact absurd (hi q p (by omega) hp (h3.trans hfp.symm)) hqp
          · omega) (fun a b ha hb hab => by
        have hab : (if a = p then f (m - 1) else f a) = (if b = p then f (m - 1) else f b) := hab
        split at hab <;> split at hab
        · omega
        · have := hi (m - 1) b (by omega) (by omega) hab; omega
        · have := hi a (m - 1) (by omega) (by omega) hab; omega
        · exact hi a b (by omega) (by omega) hab)
      omega
    · have := ih m f (fun p hpm => by
        have h1 := h p hpm
        have : f p ≠ n + 1 := fun e => hp ⟨p, hpm, e⟩
        omega) hi
      omega

/-- How many of the first n slots have an id. -/
def cntI (I : Nat → Int) : Nat → Nat
  | 0 => 0
  | n + 1 => cntI I n + if I n = 0 then 0 else 1
theorem cntI_le (I : Nat → Int) : ∀ n, cntI I n ≤ n
  | 0 => Nat.le_refl _
  | n + 1 => by have := cntI_le I n; simp only [cntI]; split <;> omega
theorem cntI_congr {I J : Nat → Int} : ∀ {n}, (∀ i, i < n → I i = J i) → cntI I n = cntI J n
  | 0, _ => rfl
  | n + 1, h => by simp only [cntI]; rw [cntI_congr fun i hi => h i (by omega), h n (by omega)]
theorem cntI_zero {I : Nat → Int} : ∀ {n}, (∀ i, i < n → I i = 0) → cntI I n = 0
  | 0, _ => rfl
  | n + 1, h => by simp only [cntI]; rw [cntI_zero fun i hi => h i (by omega), if_pos (h n (by omega))]
theorem cntI_none {I : Nat → Int} : ∀ {n}, cntI I n = 0 → ∀ i, i < n → I i = 0
  | 0, _, i, hi => by omega
  | n + 1, h, i, hi => by
    simp only [cntI] at h
    split at h
    · rename_i h0
      by_cases hin : i = n
      · rw [hin]; exact h0
      · exact cntI_none (n := n) (by omega) i (by omega)
    · omega
theorem cntI_all {I : Nat → Int} : ∀ {n}, cntI I n = n → ∀ i, i < n → I i ≠ 0
  | 0, _, i, hi => by omega
  | n + 1, h, i, hi => by
    have := cntI_le I n
    simp only [cntI] at h
    split at h
    · omega
    · rename_i h0
      by_cases hin : i = n
      · rw [hin]; exact h0
      · exact cntI_all (n := n) (by omega) i (by omega)
theorem cntI_full {I : Nat → Int} : ∀ {n}, (∀ i, i < n → I i ≠ 0) → cntI I n = n
  | 0, _ => rfl
  | n + 1, h => by simp only [cntI]; rw [cntI_full fun i hi => h i (by omega), if_neg (h n (by omega))]
theorem cntI_upd {I : Nat → Int} {i : Nat} {y : Int} : ∀ {n}, i < n → cntI (upd I i y) n + (if I i = 0 then 0 else 1) = cntI I n + (if y = 0 then 0 else 1)
  | 0, h => by omega
  | n + 1, h => by
    simp only [cntI]
    by_cases hin : i = n
    · subst hin
      rw [upd_at, cntI_congr (J := I) fun j hj => upd_ne _ _ (by omega)]
      omega
    · have := cntI_upd (I := I) (i := i) (y := y) (n := n) (by omega)
      rw [upd_ne _ _ (by omega)]
      omega

/-- The ids of the slots: numbers from 1 on, no two alike; 0 is none. -/
structure IdsOk (n : Nat) (I : Nat → Int) : Prop where
  nn : ∀ i, i < n → 0 ≤ I i ∧ I i ≤ 9223372036854775807
  uniq : ∀ i j, i < n → j < n → I i ≠ 0 → I i = I j → i = j
/-- s is the slot of id; 0, if it has none. -/
def SlotIs (n : Nat) (I : Nat → Int) (id : Int) (s : Nat) : Prop := (1 ≤ s ∧ s ≤ n ∧ id ≠ 0 ∧ I (s - 1) = id) ∨ (s = 0 ∧ ∀ i, i < n → I i = id → id = 0)
theorem slot_ex (n : Nat) (I : Nat → Int) (id : Int) : ∃ s, SlotIs n I id s := by
  by_cases h : ∃ i, i < n ∧ I i = id ∧ id ≠ 0
  · obtain ⟨i, h1, h2, h3⟩ := h
    exact ⟨i + 1, .inl ⟨by omega, by omega, h3, h2⟩⟩
  · exact ⟨0, .inr ⟨rfl, fun i hi he => Classical.byContradiction fun hn => h ⟨i, hi, he, hn⟩⟩⟩
theorem SlotIs.eq {n : Nat} {I : Nat → Int} {id : Int} {s t : Nat} (ok : IdsOk n I) (h : SlotIs n I id s) (k : SlotIs n I id t) : s = t := by
  rcases h with ⟨h1, h2, h3, h4⟩ | ⟨rfl, h⟩
  · rcases k with ⟨k1, k2, k3, k4⟩ | ⟨rfl, k⟩
    · have := ok.uniq (s - 1) (t - 1) (by omega) (by omega) (by rw [h4]; exact h3) (h4.trans k4.symm)
      omega
    · exact absurd (k (s - 1) (by omega) h4) h3
  · rcases k with ⟨k1, k2, k3, k4⟩ | ⟨rfl, k⟩
    · exact absurd (h (t - 1) (by omega) k4) k3
    · rfl
theorem SlotIs.le {n : Nat} {I : Nat → Int} {id : Int} {s : Nat} (h : SlotIs n I id s) : s ≤ n := by
  rcases h with ⟨_, h, _⟩ | ⟨rfl, _⟩
  · exact h
  · exact Nat.zero_le _

/-- The entries E, of twice as many as there are slots: each bound slot has one, which is found from the home of its id. -/
structure Hash (n : Nat) (H : Int → Nat) (I : Nat → Int) (E : Nat → Nat) : Prop where
  rng : ∀ p, p < 2 * n → E p ≤ n
  live : ∀ p, p < 2 * n → E p ≠ 0 → I (E p - 1) ≠ 0
  inj : ∀ p q, p < 2 * n → q < 2 * n → E p ≠ 0 → E p = E q → p = q
  all : ∀ i, i < n → I i ≠ 0 → ∃ p, p < 2 * n ∧ E p = i + 1
  probe : ∀ p q, p < 2 * n → q < 2 * n → E p ≠ 0 → dst (2 * n) (H (I (E p - 1))) q < dst (2 * n) (H (I (E p - 1))) p → E q ≠ 0
theorem Hash.room {n : Nat} {H : Int → Nat} {I : Nat → Int} {E : Nat → Nat} (h : Hash n H I E) (hn : 0 < n) : ∃ z, z < 2 * n ∧ E z = 0 := by
  refine Classical.byContradiction fun hc => ?_
  have := pigeon n (2 * n) E (fun p hp => ⟨by
    rcases Nat.eq_zero_or_pos (E p) with h0 | h0
    · exact absurd ⟨p, hp, h0⟩ hc
    · exact h0, h.rng p hp⟩) (fun p q hp hq he => h.inj p q hp hq (fun h0 => hc ⟨p, hp, h0⟩) he)
  omega
/-- Where the search for id ends. -/
def FindIs (n : Nat) (H : Int → Nat) (I : Nat → Int) (E : Nat → Nat) (id : Int) (at_ : Nat) (ok : Bool) : Prop :=
  at_ < 2 * n ∧ ((ok = true ∧ E at_ ≠ 0 ∧ I (E at_ - 1) = id ∧ id ≠ 0) ∨ (ok = false ∧ E at_ = 0 ∧ (∀ q, q < 2 * n → dst (2 * n) (H id) q < dst (2 * n) (H id) at_ → E q ≠ 0) ∧ ∀ i, i < n → I i = id → id = 0))
/-- In the search: the places ahead of at_ hold others. -/
structure FindAt (n : Nat) (H : Int → Nat) (I : Nat → Int) (E : Nat → Nat) (id : Int) (z at_ : Nat) : Prop where
  lt : at_ < 2 * n
  zl : z < 2 * n
  z0 : E z = 0
  le : dst (2 * n) (H id) at_ ≤ dst (2 * n) (H id) z
  no : ∀ q, q < 2 * n → dst (2 * n) (H id) q < dst (2 * n) (H id) at_ → E q ≠ 0 ∧ I (E q - 1) ≠ id
section
variable {n : Nat} {H : Int → Nat} {I : Nat → Int} {E : Nat → Nat} {id : Int} {z at_ : Nat}
theorem find_start (hH : H id < 2 * n) (hz : z < 2 * n) (h0 : E z = 0) : FindAt n H I E id z (H id) :=
  ⟨hH, hz, h0, by rw [dst_self]; omega, fun q hq h => by rw [dst_self] at h; omega⟩
theorem FindAt.none (f : FindAt n H I E id z at_) (h : Hash n H I E) (hH : H id < 2 * n) (h0 : E at_ = 0) : FindIs n H I E id at_ false := by
  refine ⟨f.lt, .inr ⟨rfl, h0, fun q hq hd => (f.no q hq hd).1, fun i hi he => Classical.byContradiction fun hne => ?_⟩⟩
  obtain ⟨p, hp, hep⟩ := h.all i hi (by rw [he]; exact hne)
  have hip : I (E p - 1) = id := by rw [hep]; exact he
  have hep0 : E p ≠ 0 := by omega
  rcases Nat.lt_trichotomy (dst (2 * n) (H id) p) (dst (2 * n) (H id) at_) with hl | hl | hl
  · exact (f.no p hp hl).2 hip
  · have := dst_inj hH hp f.lt hl
    rw [this] at hep0
    exact hep0 h0
  · have := h.probe p at_ hp f.lt hep0 (by rw [hip]; exact hl)
    exact this h0
theorem FindAt.found (f : FindAt n H I E id z at_) (h : Hash n H I E) (h0 : E at_ ≠ 0) (hi : I (E at_ - 1) = id) : FindIs n H I E id at_ true :=
  ⟨f.lt, .inl ⟨rfl, h0, hi, by rw [← hi]; exact h.live _ f.lt h0⟩⟩
theorem FindAt.next (f : FindAt n H I E id z at_) (hH : H id < 2 * n) (h0 : E at_ ≠ 0) (hi : I (E at_ - 1) ≠ id) :
    FindAt n H I E id z (nx (2 * n) at_) ∧ dst (2 * n) (nx (2 * n) at_) z + 1 = dst (2 * n) at_ z := by
  have hne : at_ ≠ z := fun e => h0 (by rw [e]; exact f.z0)
  have hle := f.le
  have hlt := f.lt
  have hzl := f.zl
  have hd : dst (2 * n) (H id) at_ ≠ dst (2 * n) (H id) z := fun e => hne (dst_inj hH f.lt f.zl e)
  have hnx : nx (2 * n) at_ ≠ H id := nx_ne hH f.lt f.zl f.le hne
  have e1 := dst_nx hH f.lt hnx
  refine ⟨⟨nx_lt f.lt, f.zl, f.z0, by omega, fun q hq hdq => ?_⟩, dst_from f.lt f.zl hne⟩
  rcases Nat.lt_or_ge (dst (2 * n) (H id) q) (dst (2 * n) (H id) at_) with hl | hl
  · exact f.no q hq hl
  · have : dst (2 * n) (H id) q = dst (2 * n) (H id) at_ := by omega
    rw [dst_inj hH hq f.lt this]
    exact ⟨h0, hi⟩
/-- Found or not: the search tells the slot. -/
theorem FindIs.slot {ok : Bool} (f : FindIs n H I E id at_ ok) (h : Hash n H I E) : SlotIs n I id (E at_) ∧ ok = decide (E at_ ≠ 0) := by
  obtain ⟨hl, h1 | h1⟩ := f
  · obtain ⟨rfl, h1, h2, h3⟩ := h1
    exact ⟨.inl ⟨by omega, h.rng _ hl, h3, h2⟩, by simp [h1]⟩
  · obtain ⟨rfl, h1, _, h2⟩ := h1
    exact ⟨.inr ⟨h1, h2⟩, by simp [h1]⟩
/-- An id that has no slot gets the free slot s. -/
theorem Hash.put {s : Nat} (h : Hash n H I E) (f : FindIs n H I E id at_ false) (hs1 : 1 ≤ s) (hs : s ≤ n) (hf : I (s - 1) = 0) (hid : id ≠ 0) : Hash n H (upd I (s - 1) id) (upd E at_ s) := by
  obtain ⟨hl, h1 | h1⟩ := f
  · cases h1.1
  obtain ⟨_, h0, hp, hno⟩ := h1
  have hEs : ∀ p, p < 2 * n → E p ≠ 0 → E p ≠ s := fun p hp h1 h2 => h.live p hp h1 (by rw [h2]; exact hf)
  have hI : ∀ p, p < 2 * n → E p ≠ 0 → upd I (s - 1) id (E p - 1) = I (E p - 1) := fun p hp h1 => upd_ne _ _ (by have := hEs p hp h1; omega)
  refine ⟨fun p hp => ?_, fun p hp hne => ?_, fun p q hp hq hne he => ?_, fun i hi hne => ?_, fun p q hp' hq hne hd => ?_⟩
  · unfold upd; split
    · exact hs
    · exact h.rng p hp
  · by_cases hpa : p = at_
    · rw [hpa, upd_at, upd_at]; exact hid
    · rw [upd_ne _ _ hpa] at hne ⊢
      rw [hI p hp hne]; exact h.live p hp hne
  · by_cases hpa : p = at_
    · by_cases hqa : q = at_
      · rw [hpa, hqa]
      · rw [hpa, upd_at, upd_ne _ _ hqa] at he
        exact absurd he.symm (hEs q hq (by omega))
    · rw [upd_ne _ _ hpa] at hne he
      by_cases hqa : q = at_
      · rw [hqa, upd_at] at he
        exact absurd he (hEs p hp hne)
      · rw [upd_ne _ _ hqa] at he
        exact h.inj p q hp hq hne he
  · by_cases his : i = s - 1
    · exact ⟨at_, hl, by rw [upd_at]; omega⟩
    · rw [upd_ne _ _ his] at hne
      obtain ⟨p, hp, he⟩ := h.all i hi hne
      exact ⟨p, hp, by rw [upd_ne _ _ (by rintro rfl; omega)]; exact he⟩
  · by_cases hqa : q = at_
    · rw [hqa, upd_at]; omega
    · rw [upd_ne _ _ hqa]
      by_cases hpa : p = at_
      · rw [hpa, upd_at, upd_at] at hd
        exact hp q hq hd
      · rw [upd_ne _ _ hpa] at hne hd
        rw [hI p hp' hne] at hd
        exact h.probe p q hp' hq hne hd
end

/-- While the entry at gap is taken away: all others are found, but for what gap stands in the way of, which lies at at_ or behind it. -/
structure Rem (n : Nat) (H : Int → Nat) (I : Nat → Int) (s : Nat) (E : Nat → Nat) (z gap at_ : Nat) : Prop where
  gl : gap < 2 * n
  al : at_ < 2 * n
  zl : z < 2 * n
  z0 : E z = 0
  g0 : E gap ≠ 0
  ne : gap ≠ at_
  le : dst (2 * n) gap at_ ≤ dst (2 * n) gap z
  rng : ∀ p, p < 2 * n → E p ≤ n
  live : ∀ p, p < 2 * n → p ≠ gap → E p ≠ 0 → I (E p - 1) ≠ 0 ∧ E p ≠ s
  inj : ∀ p q, p < 2 * n → q < 2 * n → p ≠ gap → q ≠ gap → E p ≠ 0 → E p = E q → p = q
  all : ∀ i, i < n → I i ≠ 0 → i + 1 ≠ s → ∃ p, p < 2 * n ∧ p ≠ gap ∧ E p = i + 1
  probe : ∀ p q, p < 2 * n → q < 2 * n → p ≠ gap → q ≠ gap → E p ≠ 0 → dst (2 * n) (H (I (E p - 1))) q < dst (2 * n) (H (I (E p - 1))) p → E q ≠ 0
  mid : ∀ p, p < 2 * n → p ≠ gap → E p ≠ 0 → dst (2 * n) gap p < dst (2 * n) gap at_ → ¬ dst (2 * n) (H (I (E p - 1))) gap < dst (2 * n) (H (I (E p - 1))) p
/-- What lies behind g, and ahead of p, where g lies ahead of p, too. -/
theorem behind {m h g a p : Nat} (hh : h < m) (hg : g < m) (ha : a < m) (hp : p < m) (h1 : dst m h g < dst m h p) (h2 : dst m g a < dst m g p) : dst m h a < dst m h p := by
  unfold dst at *
  split at h1 <;> split at h1 <;> split at h2 <;> split at h2 <;> split <;> omega
theorem gap_iff {m h g a : Nat} (hh : h < m) (hg : g < m) (ha : a < m) (hne : g ≠ a) : dst m g a ≤ dst m h a ↔ dst m h g < dst m h a := by
  unfold dst
  split <;> split <;> split <;> omega
section
variable {n : Nat} {H : Int → Nat} {I : Nat → Int} {E : Nat → Nat} {s z gap at_ : Nat}
theorem rem_start (h : Hash n H I E) (hg : gap < 2 * n) (hz : z < 2 * n) (h0 : E z = 0) (hs : E gap = s) (hne : s ≠ 0) : Rem n H I s E z gap (nx (2 * n) gap) := by
  have hgz : gap ≠ z := by rintro rfl; omega
  have hgn : gap ≠ nx (2 * n) gap := by unfold nx; split <;> omega
  have e1 : dst (2 * n) gap (nx (2 * n) gap) = 1 := by rw [dst_nx hg hg (Ne.symm hgn), dst_self]
  have e2 : dst (2 * n) gap z ≠ 0 := fun e => hgz (dst_zero hg hz e)
  refine ⟨hg, nx_lt hg, hz, h0, by omega, hgn, by omega, h.rng, fun p hp hpg hp0 => ⟨h.live p hp hp0, fun e => hpg (h.inj p gap hp hg hp0 (by omega))⟩, fun p q hp hq _ _ => h.inj p q hp hq, fun i hi hI his => ?_, fun p q hp hq _ _ => h.probe p q hp hq, fun p hp hpg _ hd => ?_⟩
  · obtain ⟨p, hp, he⟩ := h.all i hi hI
    exact ⟨p, hp, by rintro rfl; omega, he⟩
  · have : dst (2 * n) gap p = 0 := by omega
    exact absurd (dst_zero hg hp this).symm hpg
theorem Rem.go (r : Rem n H I s E z gap at_) (h0 : E at_ ≠ 0) : gap ≠ nx (2 * n) at_ ∧ at_ ≠ z ∧ dst (2 * n) gap (nx (2 * n) at_) ≤ dst (2 * n) gap z ∧ dst (2 * n) (nx (2 * n) at_) z + 1 = dst (2 * n) at_ z ∧ dst (2 * n) gap (nx (2 * n) at_) = dst (2 * n) gap at_ + 1 := by
  have hne : at_ ≠ z := fun e => h0 (by rw [e]; exact r.z0)
  have hle := r.le
  have hgl := r.gl
  have hlt := r.al
  have hzl := r.zl
  have hgz : gap ≠ z := fun e => r.g0 (by rw [e]; exact r.z0)
  have hd : dst (2 * n) gap at_ ≠ dst (2 * n) gap z := fun e => hne (dst_inj r.gl r.al r.zl e)
  have hnx : nx (2 * n) at_ ≠ gap := nx_ne r.gl r.al r.zl r.le hne
  have e1 := dst_nx r.gl r.al hnx
  exact ⟨Ne.symm hnx, hne, by omega, dst_from r.al r.zl hne, e1⟩
theorem Rem.stay (r : Rem n H I s E z gap at_) (hH : H (I (E at_ - 1)) < 2 * n) (h0 : E at_ ≠ 0) (hd : ¬ dst (2 * n) gap at_ ≤ dst (2 * n) (H (I (E at_ - 1))) at_) : Rem n H I s E z gap (nx (2 * n) at_) := by
  obtain ⟨g1, g2, g3, g4, g5⟩ := r.go h0
  refine ⟨r.gl, nx_lt r.al, r.zl, r.z0, r.g0, g1, g3, r.rng, r.live, r.inj, r.all, r.probe, fun p hp hpg hp0 hdp => ?_⟩
  rcases Nat.lt_or_ge (dst (2 * n) gap p) (dst (2 * n) gap at_) with hl | hl
  · exact r.mid p hp hpg hp0 hl
  · have : dst (2 * n) gap p = dst (2 * n) gap at_ := by omega
    have hpa := dst_inj r.gl hp r.al this
    rw [hpa]
    intro hc
    exact hd ((gap_iff hH r.gl r.al r.ne).2 hc)
theorem Rem.move (r : Rem n H I s E z gap at_) (hH : H (I (E at_ - 1)) < 2 * n) (h0 : E at_ ≠ 0) (hd : dst (2 * n) gap at_ ≤ dst (2 * n) (H (I (E at_ - 1))) at_) : Rem n H I s (upd E gap (E at_)) z at_ (nx (2 * n) at_) := by
  obtain ⟨g1, g2, g3, g4, g5⟩ := r.go h0
  have hgz : z ≠ gap := fun e => r.g0 (by rw [← e]; exact r.z0)
  have hga := (gap_iff hH r.gl r.al r.ne).1 hd
  have hng := r.ne
  have han : at_ ≠ nx (2 * n) at_ := by have := r.al; unfold nx; split <;> omega
  have e1 : dst (2 * n) at_ (nx (2 * n) at_) = 1 := by rw [dst_nx r.al r.al (Ne.symm han), dst_self]
  have e2 : dst (2 * n) at_ z ≠ 0 := fun e => g2 (dst_zero r.al r.zl e)
  refine ⟨r.al, nx_lt r.al, r.zl, by rw [upd_ne _ _ hgz]; exact r.z0, by rw [upd_ne _ _ (Ne.symm hng)]; exact h0, han, by omega, fun p hp => ?_, fun p hp hpa hp0 => ?_, fun p q hp hq hpa hqa hp0 he => ?_, fun i hi hI his => ?_, fun p q hp hq hpa hqa hp0 hdq => ?_, fun p hp hpa _ hdp => ?_⟩
  · unfold upd; split
    · exact r.rng _ r.al
    · exact r.rng p hp
  · by_cases hpg : p = gap
    · rw [hpg, upd_at]; exact r.live at_ r.al (Ne.symm hng) h0
    · rw [upd_ne _ _ hpg] at hp0 ⊢; exact r.live p hp hpg hp0
  · by_cases hpg : p = gap
    · by_cases hqg : q = gap
      · rw [hpg, hqg]
      · rw [hpg, upd_at, upd_ne _ _ hqg] at he
        exact absurd (r.inj at_ q r.al hq (Ne.symm hng) hqg h0 he).symm hqa
    · rw [upd_ne _ _ hpg] at hp0 he
      by_cases hqg : q = gap
      · rw [hqg, upd_at] at he
        exact absurd (r.inj p at_ hp r.al hpg (Ne.symm hng) hp0 he) hpa
      · rw [upd_ne _ _ hqg] at he
        exact r.inj p q hp hq hpg hqg hp0 he
  · obtain ⟨p, hp, hpg, he⟩ := r.all i hi hI his
    by_cases hpa : p = at_
    · exact ⟨gap, r.gl, hng, by rw [upd_at, ← hpa]; exact he⟩
    · exact ⟨p, hp, hpa, by rw [upd_ne _ _ hpg]; exact he⟩
  · by_cases hqg : q = gap
    · rw [hqg, upd_at]; exact h0
    · rw [upd_ne _ _ hqg]
      by_cases hpg : p = gap
      · rw [hpg, upd_at] at hdq
        exact r.probe at_ q r.al hq (Ne.symm hng) hqg h0 (by omega)
      · rw [upd_ne _ _ hpg] at hp0 hdq
        exact r.probe p q hp hq hpg hqg hp0 hdq
  · have : dst (2 * n) at_ p = 0 := by omega
    exact absurd (dst_zero r.al hp this).symm hpa
theorem Rem.done (r : Rem n H I s E z gap at_) (hHl : ∀ id, H id < 2 * n) (hs : 1 ≤ s) (h0 : E at_ = 0) : Hash n H (upd I (s - 1) 0) (upd E gap 0) := by
  have hng := r.ne
  have hEs : ∀ p, p < 2 * n → p ≠ gap → E p ≠ 0 → upd I (s - 1) 0 (E p - 1) = I (E p - 1) := fun p hp hpg h1 => upd_ne _ _ (by
    have := (r.live p hp hpg h1).2
    omega)
  have hgap : ∀ p, p ≠ gap → upd E gap 0 p ≠ 0 → E p ≠ 0 := fun p hpg h1 => by rwa [upd_ne _ _ hpg] at h1
  have hne : ∀ p, upd E gap 0 p ≠ 0 → p ≠ gap := fun p h1 e => h1 (by rw [e, upd_at])
  refine ⟨fun p hp => ?_, fun p hp hp0 => ?_, fun p q hp hq hp0 he => ?_, fun i hi hI => ?_, fun p q hp hq hp0 hdq => ?_⟩
  · unfold upd; split
    · exact Nat.zero_le _
    · exact r.rng p hp
  · have hpg := hne p hp0
    have h1 := hgap p hpg hp0
    rw [upd_ne _ _ hpg, hEs p hp hpg h1]
    exact (r.live p hp hpg h1).1
  · have hpg := hne p hp0
    have hqg := hne q (by rw [← he]; exact hp0)
    have h1 := hgap p hpg hp0
    rw [upd_ne _ _ hpg, upd_ne _ _ hqg] at he
    exact r.inj p q hp hq hpg hqg h1 he
  · by_cases his : i = s - 1
    · rw [his, upd_at] at hI; exact absurd rfl hI
    · rw [upd_ne _ _ his] at hI
      obtain ⟨p, hp, hpg, he⟩ := r.all i hi hI (by omega)
      exact ⟨p, hp, by rw [upd_ne _ _ hpg]; exact he⟩
  · have hpg := hne p hp0
    have h1 := hgap p hpg hp0
    rw [upd_ne _ _ hpg, hEs p hp hpg h1] at hdq
    have hpa : p ≠ at_ := by rintro rfl; exact h1 h0
    have hnogap : ¬ dst (2 * n) (H (I (E p - 1))) gap < dst (2 * n) (H (I (E p - 1))) p := by
      rcases Nat.lt_or_ge (dst (2 * n) gap p) (dst (2 * n) gap at_) with hl | hl
      · exact r.mid p hp hpg h1 hl
      · intro hc
        have hl2 : dst (2 * n) gap at_ < dst (2 * n) gap p := by
          rcases Nat.lt_or_eq_of_le hl with h | h
          · exact h
          · exact absurd (dst_inj r.gl r.al hp h).symm hpa
        exact r.probe p at_ hp r.al hpg (Ne.symm hng) h1 (behind (hHl _) r.gl r.al hp hc hl2) h0
    by_cases hqg : q = gap
    · rw [hqg] at hdq; exact absurd hdq hnogap
    · rw [upd_ne _ _ hqg]
      exact r.probe p q hp hq hpg hqg h1 hdq
end
end Go.Proofs.Ythooeehobhegbaa
