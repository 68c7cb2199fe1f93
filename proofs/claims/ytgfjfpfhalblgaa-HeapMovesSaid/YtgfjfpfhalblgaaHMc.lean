/- Plain facts on moving blocks together. No program is spoken of. -/
import Derived.Test.YtgfjfpfhalblgaaHMb
import Derived.Test.YtgfjfpfhalblgaaHBase
namespace Go.Proofs.Ytgfjfpfhalblgaa

/-- The place of the block k. -/
def atB (B : List (Option Bk)) (k : Nat) : Nat := match look B k with | some b => b.a | none => 0
theorem atB_some {B : List (Option Bk)} {k : Nat} {b : Bk} (h : look B k = some b) : atB B k = b.a := by simp only [atB, h]
/-- S: the numbers of the blocks that have words, by their places. -/
structure Placed (B : List (Option Bk)) (S : List Nat) : Prop where
  mem : ∀ k, k ∈ S ↔ 0 < lenB B k
  inc : S.Pairwise fun i j => atB B i < atB B j
/-- The words of the first j of them. -/
def endS (B : List (Option Bk)) (S : List Nat) : Nat → Nat
  | 0 => 0
  | j + 1 => endS B S j + lenB B (S.getD j 0)
def movedN (B : List (Option Bk)) (S : List Nat) : Nat → Nat
  | 0 => 0
  | j + 1 => movedN B S j + if atB B (S.getD j 0) = endS B S j then 0 else 1
theorem movedN_le (B : List (Option Bk)) (S : List Nat) (j : Nat) : movedN B S j ≤ j := by
  induction j with
  | zero => exact Nat.le_refl _
  | succ j ih => simp only [movedN]; split <;> omega
theorem len_some {B : List (Option Bk)} {k : Nat} (h : 0 < lenB B k) : ∃ b, look B k = some b ∧ b.ws.length = lenB B k ∧ b.a = atB B k := by
  cases hb : look B k with
  | none => rw [lenB_none hb] at h; omega
  | some b => exact ⟨b, rfl, (lenB_some hb).symm, (atB_some hb).symm⟩
theorem getD_memN {l : List Nat} {j : Nat} (h : j < l.length) : l.getD j 0 ∈ l := by
  rw [List.getD, List.getElem?_eq_getElem h]; exact List.getElem_mem h
section
variable {n : Nat} {B : List (Option Bk)} {S : List Nat}
theorem Placed.pos (h : Placed B S) {j : Nat} (hj : j < S.length) : 0 < lenB B (S.getD j 0) := (h.mem _).1 (getD_memN hj)
theorem Placed.lt (h : Placed B S) {i j : Nat} (hij : i < j) (hj : j < S.length) : atB B (S.getD i 0) < atB B (S.getD j 0) := by
  have := List.pairwise_iff_getElem.1 h.inc i j (by omega) hj hij
  simpa only [List.getD, List.getElem?_eq_getElem hj, List.getElem?_eq_getElem (show i < S.length by omega), Option.getD_some] using this
theorem Placed.nodup (h : Placed B S) : S.Nodup := h.inc.imp fun {a b} hab e => by subst e; omega
theorem Placed.inj (h : Placed B S) {i j : Nat} (hi : i < S.length) (hj : j < S.length) (he : S.getD i 0 = S.getD j 0) : i = j := by
  rcases Nat.lt_trichotomy i j with h1 | h1 | h1
  · have := h.lt h1 hj; rw [he] at this; omega
  · exact h1
  · have := h.lt h1 hi; rw [he] at this; omega
theorem Placed.idx (h : Placed B S) {k : Nat} (hk : 0 < lenB B k) : ∃ j, j < S.length ∧ S.getD j 0 = k := by
  obtain ⟨j, hj, he⟩ := List.mem_iff_getElem.1 ((h.mem k).2 hk)
  exact ⟨j, hj, by rw [List.getD, List.getElem?_eq_getElem hj]; exact he⟩
/-- Blocks behind one another have no word in common. -/
theorem GoodB.next_at (h : GoodB n B) {i j : Nat} (hi : 0 < lenB B i) (hj : 0 < lenB B j) (hlt : atB B i < atB B j) : atB B i + lenB B i ≤ atB B j := by
  obtain ⟨bi, h1, h2, h3⟩ := len_some hi
  obtain ⟨bj, k1, k2, k3⟩ := len_some hj
  rcases Nat.lt_or_ge (atB B j) (atB B i + lenB B i) with hc | hc
  · have hne : i ≠ j := by rintro rfl; omega
    have := h.apart i j bi bj bj.a hne h1 k1 (inB_iff.2 ⟨by omega, by omega⟩)
    have h5 : inB bj bj.a = true := inB_iff.2 ⟨Nat.le_refl _, by omega⟩
    rw [h5] at this; cases this
  · exact hc
theorem Placed.end_le (h : Placed B S) (hg : GoodB n B) : ∀ {j : Nat}, j < S.length → endS B S j ≤ atB B (S.getD j 0)
  | 0, _ => Nat.zero_le _
  | j + 1, hj => by
    have ih := Placed.end_le h hg (j := j) (by omega)
    have := hg.next_at (h.pos (j := j) (by omega)) (h.pos hj) (h.lt (Nat.lt_succ_self j) hj)
    simp only [endS]; omega
theorem Placed.end_top (h : Placed B S) (hg : GoodB n B) : ∀ {j : Nat}, j ≤ S.length → endS B S j ≤ n
  | 0, _ => Nat.zero_le _
  | j + 1, hj => by
    have h1 := h.end_le hg (j := j) (by omega)
    obtain ⟨b, k1, k2, k3⟩ := len_some (h.pos (j := j) (by omega))
    have := hg.fits _ b k1
    simp only [endS]; omega
theorem Placed.end_mono (h : Placed B S) : ∀ {i j : Nat}, i ≤ j → endS B S i ≤ endS B S j
  | i, 0, hij => by rw [Nat.le_zero.1 hij]; exact Nat.le_refl _
  | i, j + 1, hij => by
    rcases Nat.lt_or_ge j i with h1 | h1
    · rw [show i = j + 1 by omega]; exact Nat.le_refl _
    · have := Placed.end_mono h h1; simp only [endS]; omega
theorem Placed.end_lt (h : Placed B S) {i j : Nat} (hij : i < j) (_hj : j ≤ S.length) : endS B S i + lenB B (S.getD i 0) ≤ endS B S j := h.end_mono (show i + 1 ≤ j by omega)

/-- Which of them has the word i. -/
theorem in_run {i : Nat} : ∀ {j : Nat}, i < endS B S j → ∃ x, x < j ∧ endS B S x ≤ i ∧ i < endS B S x + lenB B (S.getD x 0)
  | 0, h => by simp [endS] at h
  | j + 1, h => by
    rcases Nat.lt_or_ge i (endS B S j) with h1 | h1
    · obtain ⟨x, hx, h2⟩ := in_run h1
      exact ⟨x, by omega, h2⟩
    · exact ⟨j, by omega, h1, h⟩

/-- The blocks B' and the words V behind j blocks moved. -/
structure CmpAt (n : Nat) (B : List (Option Bk)) (S : List Nat) (j : Nat) (B' : List (Option Bk)) (V : Nat → Int) : Prop where
  len : B'.length = B.length
  put : ∀ i b, i < j → look B (S.getD i 0) = some b → look B' (S.getD i 0) = some ⟨endS B S i, b.ws⟩
  old : ∀ k, (∀ i, i < j → S.getD i 0 ≠ k) → look B' k = look B k
  word : ∀ k b p, look B' k = some b → p < b.ws.length → V (b.a + p) = b.ws.getD p 0
theorem cmp_start (hg : GoodB n B) : CmpAt n B S 0 B (wordAt B) := ⟨rfl, fun i b h => by omega, fun k _ => rfl, fun k b p hb hp => hg.in_ hb hp⟩
section
variable {j : Nat} {B' : List (Option Bk)} {V : Nat → Int} {b : Bk}
theorem CmpAt.here (c : CmpAt n B S j B' V) (h : Placed B S) (hj : j < S.length) : look B' (S.getD j 0) = look B (S.getD j 0) :=
  c.old _ fun i hi e => by have := h.inj (by omega) hj e; omega
theorem CmpAt.stay (c : CmpAt n B S j B' V) (h : Placed B S) (hj : j < S.length) (he : atB B (S.getD j 0) = endS B S j) : CmpAt n B S (j + 1) B' V := by
  refine ⟨c.len, fun i b hi hb => ?_, fun k hk => c.old k fun i hi => hk i (by omega), c.word⟩
  rcases Nat.lt_or_ge i j with h1 | h1
  · exact c.put i b h1 hb
  · have : i = j := by omega
    subst this
    rw [c.here h hj, hb, ← he, atB_some hb]
theorem CmpAt.move (c : CmpAt n B S j B' V) (h : Placed B S) (hg : GoodB n B) (hj : j < S.length) (hb : look B (S.getD j 0) = some b) :
    CmpAt n B S (j + 1) (B'.set (S.getD j 0) (some ⟨endS B S j, b.ws⟩)) (over V (endS B S j) b.ws) := by
  have hk : S.getD j 0 < B'.length := by rw [c.len]; exact look_lt hb
  have hle := h.end_le hg hj
  rw [atB_some hb] at hle
  refine ⟨by rw [List.length_set]; exact c.len, fun i b' hi hb' => ?_, fun k hk' => ?_, fun k b' p hb' hp => ?_⟩
  · rw [look_set hk]
    rcases Nat.lt_or_ge i j with h1 | h1
    · rw [if_neg fun e => by have := h.inj (by omega) hj e; omega]; exact c.put i b' h1 hb'
    · have : i = j := by omega
      subst this
      rw [if_pos rfl]; rw [hb] at hb'; injection hb' with hb'; rw [hb']
  · rw [look_set hk, if_neg fun e => hk' j (by omega) e.symm]
    exact c.old k fun i hi => hk' i (by omega)
  · rw [look_set hk] at hb'
    simp only [over]
    split at hb'
    · injection hb' with hb'; subst hb'
      rw [if_pos (show endS B S j ≤ endS B S j + p ∧ endS B S j + p < endS B S j + b.ws.length from ⟨by omega, by simpa using hp⟩)]
      rw [show endS B S j + p - endS B S j = p by omega]
    · rename_i hne
      have hlj := lenB_some hb
      have hw := c.word k b' p hb' hp
      rw [if_neg]
      · exact hw
      by_cases hm : ∃ i, i < j ∧ S.getD i 0 = k
      · obtain ⟨i, hi, rfl⟩ := hm
        obtain ⟨c0, g1, g2, g3⟩ := len_some (h.pos (j := i) (by omega))
        have h2 := c.put i c0 hi g1
        rw [hb'] at h2; injection h2 with h2; subst h2
        have h3 := h.end_lt hi (by omega : j ≤ S.length)
        simp only at hp ⊢
        omega
      · have h2 := c.old k fun i hi e => hm ⟨i, hi, e⟩
        rw [hb'] at h2
        have hl : 0 < lenB B k := by rw [lenB_some h2.symm]; omega
        obtain ⟨q, hq, rfl⟩ := h.idx hl
        have hq2 : j < q := by
          rcases Nat.lt_trichotomy j q with h3 | h3 | h3
          · exact h3
          · subst h3; exact absurd rfl hne
          · exact absurd ⟨q, h3, rfl⟩ hm
        have h3 := hg.next_at (h.pos hj) hl (h.lt hq2 hq)
        rw [atB_some hb, atB_some h2.symm, hlj] at h3
        omega
end
/-- The blocks B' are the blocks B moved together; m: how many changed their place. -/
structure CompIs (n : Nat) (B B' : List (Option Bk)) (m : Nat) (S : List Nat) : Prop where
  plc : Placed B S
  len : B'.length = B.length
  put : ∀ i b, i < S.length → look B (S.getD i 0) = some b → look B' (S.getD i 0) = some ⟨endS B S i, b.ws⟩
  old : ∀ k, lenB B k = 0 → look B' k = look B k
  mv : m = movedN B S S.length
  good : GoodB n B'
  tight : ∀ i, i < n → (wordAt B' i = -1 ↔ totB B ≤ i)
theorem CompIs.lens {B' : List (Option Bk)} {m : Nat} (c : CompIs n B B' m S) (k : Nat) : lenB B' k = lenB B k := by
  rcases Nat.eq_zero_or_pos (lenB B k) with h | h
  · simp only [lenB, c.old k h]
  · obtain ⟨j, hj, rfl⟩ := c.plc.idx h
    obtain ⟨b, g1, g2, g3⟩ := len_some h
    rw [lenB_some (c.put j b hj g1)]; exact g2
theorem CompIs.tot {B' : List (Option Bk)} {m : Nat} (c : CompIs n B B' m S) : totB B' = totB B := tot_eq c.len c.lens
/-- All is moved, and what is behind the last word is free: so it is what CompIs says. -/
theorem CmpAt.done {B' : List (Option Bk)} {V : Nat → Int} (c : CmpAt n B S S.length B' V) (h : Placed B S) (hg : GoodB n B) :
    CompIs n B B' (movedN B S S.length) S ∧ ∀ i, i < n → (if endS B S S.length ≤ i then -1 else V i) = wordAt B' i := by
  have old : ∀ k, lenB B k = 0 → look B' k = look B k := fun k hk => c.old k fun i hi e => by have := h.pos hi; rw [e] at this; omega
  have top := h.end_top hg (Nat.le_refl S.length)
  -- each block of B' by its place in S, or without words
  have key : ∀ k b, look B' k = some b → (∃ b0, look B k = some b0 ∧ b0.ws = b.ws) ∧ ((b.ws = [] ∧ look B k = some b) ∨ ∃ i, i < S.length ∧ S.getD i 0 = k ∧ b.a = endS B S i ∧ b.ws.length = lenB B k) := fun k b hb => by
    rcases Nat.eq_zero_or_pos (lenB B k) with hk | hk
    · rw [old k hk] at hb
      have := lenB_some hb
      exact ⟨⟨b, hb, rfl⟩, .inl ⟨List.eq_nil_of_length_eq_zero (by omega), hb⟩⟩
    · obtain ⟨j, hj, rfl⟩ := h.idx hk
      obtain ⟨b0, g1, g2, g3⟩ := len_some hk
      have := c.put j b0 hj g1
      rw [hb] at this; injection this with this; subst this
      exact ⟨⟨b0, g1, rfl⟩, .inr ⟨j, hj, rfl, rfl, g2⟩⟩
  have good : GoodB n B' := by
    refine ⟨fun k b hb => ?_, fun k b hb hz => ?_, fun i j bi bj p hij hi hj hp => ?_, fun k b hb x hx => ?_⟩
    · rcases (key k b hb).2 with ⟨hw, h1⟩ | ⟨i, hi, rfl, h2, h3⟩
      · exact hg.fits k b h1
      · have := h.end_top hg (j := i + 1) (by omega)
        simp only [endS] at this; omega
    · rcases (key k b hb).2 with ⟨hw, h1⟩ | ⟨i, hi, rfl, h2, h3⟩
      · exact hg.zero k b h1 hz
      · have := h.pos hi; have h4 : b.ws.length = 0 := by rw [hz]; rfl
        omega
    · obtain ⟨p1, p2⟩ := inB_iff.1 hp
      rcases (key i bi hi).2 with ⟨hw, _⟩ | ⟨x, hx, rfl, h2, h3⟩
      · have h4 : bi.ws.length = 0 := by rw [hw]; rfl
        omega
      · rcases (key j bj hj).2 with ⟨hw, _⟩ | ⟨y, hy, rfl, k2, k3⟩
        · have h4 : bj.ws.length = 0 := by rw [hw]; rfl
          exact inB_not.2 (by omega)
        · refine inB_not.2 ?_
          rcases Nat.lt_trichotomy x y with hxy | hxy | hxy
          · have := h.end_lt hxy (by omega : y ≤ S.length); omega
          · subst hxy; exact absurd rfl hij
          · have := h.end_lt hxy (by omega : x ≤ S.length); omega
    · obtain ⟨⟨b0, h1, h2⟩, _⟩ := key k b hb
      exact hg.w16 k b0 h1 x (by rw [h2]; exact hx)
  have tot : endS B S S.length = totB B := by
    have lens : ∀ k, lenB B' k = lenB B k := fun k => by
      cases hb : look B' k with
      | none =>
        rcases Nat.eq_zero_or_pos (lenB B k) with hk | hk
        · rw [lenB_none hb, hk]
        · obtain ⟨j, hj, rfl⟩ := h.idx hk
          obtain ⟨b0, g1, _, _⟩ := len_some hk
          have := c.put j b0 hj g1
          rw [hb] at this; cases this
      | some b =>
        obtain ⟨⟨b0, h1, h2⟩, _⟩ := key k b hb
        rw [lenB_some hb, lenB_some h1, h2]
    have h1 := cnt_tot good
    rw [tot_eq c.len lens] at h1
    have h2 : cntF (wordAt B') n = n - endS B S S.length := cntF_tight fun i hi => by
      rw [good.free]
      constructor
      · intro hf
        rcases Nat.lt_or_ge i (endS B S S.length) with hlt | hge
        · exfalso
          obtain ⟨x, hx, h1, h2⟩ := in_run hlt
          obtain ⟨b0, g1, g2, g3⟩ := len_some (h.pos hx)
          have := hf _ _ (c.put x b0 hx g1)
          exact inB_not.1 this ⟨h1, by simp only; omega⟩
        · exact hge
      · intro hge k b hb
        refine inB_not.2 ?_
        rcases (key k b hb).2 with ⟨hw, _⟩ | ⟨x, hx, rfl, h2, h3⟩
        · have h4 : b.ws.length = 0 := by rw [hw]; rfl
          omega
        · have := h.end_mono (show x + 1 ≤ S.length by omega)
          simp only [endS] at this; omega
    omega
  have word : ∀ i, i < n → (if endS B S S.length ≤ i then -1 else V i) = wordAt B' i := fun i hi => by
    rcases wordAt_is B' i with ⟨k, b, h1, h2, h3⟩ | ⟨h1, h2⟩
    · obtain ⟨p1, p2⟩ := inB_iff.1 h2
      have hlt : ¬ endS B S S.length ≤ i := by
        rcases (key k b h1).2 with ⟨hw, _⟩ | ⟨x, hx, rfl, g2, g3⟩
        · have h4 : b.ws.length = 0 := by rw [hw]; rfl
          omega
        · have := h.end_mono (show x + 1 ≤ S.length by omega)
          simp only [endS] at this; omega
      rw [if_neg hlt, h3, ← c.word k b (i - b.a) h1 (by omega), show b.a + (i - b.a) = i by omega]
    · rw [h2]
      split
      · rfl
      · rename_i hlt
        exfalso
        obtain ⟨x, hx, g1, g2⟩ := in_run (B := B) (S := S) (i := i) (j := S.length) (by omega)
        obtain ⟨b0, f1, f2, f3⟩ := len_some (h.pos hx)
        have := h1 _ _ (c.put x b0 hx f1)
        exact inB_not.1 this ⟨g1, by simp only; omega⟩
  refine ⟨⟨h, c.len, c.put, old, rfl, good, fun i hi => ?_⟩, word⟩
  have hw := word i hi
  rw [← tot, ← hw]
  constructor
  · intro e
    rcases Nat.lt_or_ge i (endS B S S.length) with hlt | hge
    · exfalso
      rw [if_neg (by omega)] at e
      rw [if_neg (by omega), e] at hw
      have hf := good.free.1 hw.symm
      obtain ⟨x, hx, g1, g2⟩ := in_run hlt
      obtain ⟨b0, f1, f2, f3⟩ := len_some (h.pos hx)
      have := hf _ _ (c.put x b0 hx f1)
      exact inB_not.1 this ⟨g1, by simp only; omega⟩
    · exact hge
  · intro hge; rw [if_pos hge]
/-- Where nothing is free ahead of what is not, nothing is moved. -/
theorem Placed.still (h : Placed B S) (hg : GoodB n B) (ht : ∀ i, i < n → (wordAt B i = -1 ↔ totB B ≤ i)) : movedN B S S.length = 0 := by
  have at_ : ∀ m, m ≤ S.length → ∀ j, j < m → atB B (S.getD j 0) = endS B S j := fun m => by
    induction m with
    | zero => intro _ j hj; omega
    | succ m ih =>
      intro hm j hj
      rcases Nat.lt_or_ge j m with h0 | h0
      · exact ih (by omega) j h0
      obtain rfl : j = m := by omega
      have hq := ih (by omega)
      have hj : j < S.length := by omega
      have hle := h.end_le hg hj
      obtain ⟨b, g1, g2, g3⟩ := len_some (h.pos hj)
      have hpos := h.pos hj
      have hf := hg.fits _ b g1
      rcases Nat.lt_or_ge (endS B S j) (atB B (S.getD j 0)) with hlt | hge
      · exfalso
        have hfree : wordAt B (endS B S j) = -1 := hg.free.2 fun k c hc => by
          refine inB_not.2 fun ⟨p1, p2⟩ => ?_
          have hk : 0 < lenB B k := by rw [lenB_some hc]; omega
          obtain ⟨x, hx, rfl⟩ := h.idx hk
          have hxc := atB_some hc
          have hxl := lenB_some hc
          rcases Nat.lt_or_ge x j with hxj | hxj
          · have hb := h.end_lt hxj (by omega : j ≤ S.length)
            have := hq x hxj
            omega
          · rcases Nat.lt_or_ge j x with h1 | h1
            · have := h.lt h1 hx; omega
            · have : x = j := by omega
              subst this; omega
        have h1 := (ht (endS B S j) (by omega)).1 hfree
        have h2 : wordAt B b.a ≠ -1 := fun e => by
          have := hg.nn g1 (inB_iff.2 ⟨Nat.le_refl _, by omega⟩)
          omega
        exact h2 ((ht b.a (by omega)).2 (by omega))
      · omega
  have : ∀ j, j ≤ S.length → movedN B S j = 0 := fun j => by
    induction j with
    | zero => intro _; rfl
    | succ j ih => intro hj; simp only [movedN]; rw [ih (by omega), if_pos (at_ _ (Nat.le_refl _) j (by omega))]
  exact this _ (Nat.le_refl _)
end
end Go.Proofs.Ytgfjfpfhalblgaa
