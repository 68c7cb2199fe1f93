/- Plain facts on the blocks of a heap: which word stands where, what a new block, a block less, and other words change. No program is spoken of. -/
namespace Go.Proofs.Ytgfjfpfhalblgaa

/-- A block: its place, and its words. -/
structure Bk where
  a : Nat
  ws : List Int
/-- The block with the number k. -/
def look (B : List (Option Bk)) (k : Nat) : Option Bk := B.getD k none
def inB (b : Bk) (i : Nat) : Bool := decide (b.a ≤ i ∧ i < b.a + b.ws.length)
/-- The word that stands at place i: -1 if no block has it. -/
def wordAt : List (Option Bk) → Nat → Int
  | [], _ => -1
  | none :: r, i => wordAt r i
  | some b :: r, i => if inB b i = true then b.ws.getD (i - b.a) 0 else wordAt r i
/-- The least number that no block has. -/
def nextB (B : List (Option Bk)) : Nat := B.findIdx Option.isNone
structure GoodB (n : Nat) (B : List (Option Bk)) : Prop where
  fits : ∀ k b, look B k = some b → b.a + b.ws.length ≤ n
  zero : ∀ k b, look B k = some b → b.ws = [] → b.a = 0
  apart : ∀ i j bi bj p, i ≠ j → look B i = some bi → look B j = some bj → inB bi p = true → inB bj p = false
  w16 : ∀ k b, look B k = some b → ∀ x ∈ b.ws, 0 ≤ x ∧ x ≤ 65535

theorem inB_iff {b : Bk} {i : Nat} : inB b i = true ↔ b.a ≤ i ∧ i < b.a + b.ws.length := by simp [inB]
theorem inB_not {b : Bk} {i : Nat} : inB b i = false ↔ ¬ (b.a ≤ i ∧ i < b.a + b.ws.length) := by simp only [inB, decide_eq_false_iff_not]
theorem look_lt {B : List (Option Bk)} {k : Nat} {b : Bk} (h : look B k = some b) : k < B.length := by
  rcases Nat.lt_or_ge k B.length with h1 | h1
  · exact h1
  · rw [look, List.getD, List.getElem?_eq_none h1] at h; cases h
theorem look_get {B : List (Option Bk)} {k : Nat} {o : Option Bk} (h : B[k]? = some o) : look B k = o := by rw [look, List.getD, h]; rfl
theorem look_out {B : List (Option Bk)} {k : Nat} (h : B.length ≤ k) : look B k = none := by rw [look, List.getD, List.getElem?_eq_none h]; rfl
theorem get_look {B : List (Option Bk)} {k : Nat} (h : k < B.length) : B[k]? = some (look B k) := by rw [look, List.getD, List.getElem?_eq_getElem h]; rfl
theorem look_nil (k : Nat) : look [] k = none := by simp [look]
theorem look_zero (o : Option Bk) (r : List (Option Bk)) : look (o :: r) 0 = o := rfl
theorem look_succ (o : Option Bk) (r : List (Option Bk)) (k : Nat) : look (o :: r) (k + 1) = look r k := by simp [look, List.getD]
theorem look_map (f : Bk → Bk) (B : List (Option Bk)) (k : Nat) : look (B.map (Option.map f)) k = (look B k).map f := by
  rw [look, List.getD, List.getElem?_map, look, List.getD]
  cases B[k]? <;> rfl

/-- What stands at place i. -/
def WordIs (B : List (Option Bk)) (i : Nat) (v : Int) : Prop :=
  (∃ k b, look B k = some b ∧ inB b i = true ∧ v = b.ws.getD (i - b.a) 0) ∨ ((∀ k b, look B k = some b → inB b i = false) ∧ v = -1)
theorem wordAt_is (B : List (Option Bk)) (i : Nat) : WordIs B i (wordAt B i) := by
  induction B with
  | nil => exact .inr ⟨fun k b h => (by rw [look_nil] at h; cases h), rfl⟩
  | cons o r ih =>
    cases o with
    | none =>
      rcases ih with ⟨k, b, h1, h2, h3⟩ | ⟨h1, h2⟩
      · exact .inl ⟨k + 1, b, by rw [look_succ]; exact h1, h2, h3⟩
      · refine .inr ⟨fun k b h => ?_, h2⟩
        cases k with
        | zero => cases h
        | succ k => rw [look_succ] at h; exact h1 k b h
    | some b =>
      simp only [wordAt]
      split
      · rename_i h
        exact .inl ⟨0, b, rfl, h, rfl⟩
      · rename_i h
        rcases ih with ⟨k, b', h1, h2, h3⟩ | ⟨h1, h2⟩
        · exact .inl ⟨k + 1, b', by rw [look_succ]; exact h1, h2, h3⟩
        · refine .inr ⟨fun k b' hk => ?_, h2⟩
          cases k with
          | zero => injection hk with hk; subst hk; simpa using h
          | succ k => rw [look_succ] at hk; exact h1 k b' hk
theorem GoodB.word {n : Nat} {B : List (Option Bk)} (h : GoodB n B) {i : Nat} {v : Int} (hv : WordIs B i v) : wordAt B i = v := by
  rcases wordAt_is B i with ⟨k, b, h1, h2, h3⟩ | ⟨h1, h2⟩
  · rcases hv with ⟨k', b', g1, g2, g3⟩ | ⟨g1, g2⟩
    · by_cases hk : k = k'
      · subst hk; rw [h1] at g1; injection g1 with g1; subst g1; rw [h3, g3]
      · have := h.apart k k' b b' i hk h1 g1 h2; rw [g2] at this; cases this
    · have := g1 k b h1; rw [h2] at this; cases this
  · rcases hv with ⟨k', b', g1, g2, g3⟩ | ⟨g1, g2⟩
    · have := h1 k' b' g1; rw [g2] at this; cases this
    · rw [h2, g2]
theorem GoodB.in_ {n : Nat} {B : List (Option Bk)} (h : GoodB n B) {k : Nat} {b : Bk} (hb : look B k = some b) {j : Nat} (hj : j < b.ws.length) : wordAt B (b.a + j) = b.ws.getD j 0 :=
  h.word (.inl ⟨k, b, hb, inB_iff.2 ⟨by omega, by omega⟩, by rw [show b.a + j - b.a = j by omega]⟩)
theorem getD_mem {l : List Int} {j : Nat} (h : j < l.length) : l.getD j 0 ∈ l := by
  rw [List.getD, List.getElem?_eq_getElem h]; exact List.getElem_mem h
theorem GoodB.nn {n : Nat} {B : List (Option Bk)} (h : GoodB n B) {k : Nat} {b : Bk} (hb : look B k = some b) {i : Nat} (hi : inB b i = true) : 0 ≤ wordAt B i := by
  obtain ⟨h1, h2⟩ := inB_iff.1 hi
  have := h.in_ hb (j := i - b.a) (by omega)
  rw [show b.a + (i - b.a) = i by omega] at this
  rw [this]
  exact (h.w16 k b hb _ (getD_mem (by omega))).1
theorem GoodB.free {n : Nat} {B : List (Option Bk)} (h : GoodB n B) {i : Nat} : wordAt B i = -1 ↔ ∀ k b, look B k = some b → inB b i = false := by
  constructor
  · intro h1 k b hb
    cases hi : inB b i with
    | false => rfl
    | true => have := h.nn hb hi; omega
  · intro h1; exact h.word (.inr ⟨h1, rfl⟩)
theorem wordAt_rng {n : Nat} {B : List (Option Bk)} (h : GoodB n B) (i : Nat) : -1 ≤ wordAt B i ∧ wordAt B i ≤ 65535 := by
  rcases wordAt_is B i with ⟨k, b, h1, h2, h3⟩ | ⟨h1, h2⟩
  · obtain ⟨g1, g2⟩ := inB_iff.1 h2
    have := h.w16 k b h1 _ (getD_mem (l := b.ws) (j := i - b.a) (by omega))
    rw [← h3] at this; omega
  · omega

theorem good_nil (n : Nat) : GoodB n [] := ⟨fun k b h => (by rw [look_nil] at h; cases h), fun k b h => (by rw [look_nil] at h; cases h), fun i j bi bj p _ h => (by rw [look_nil] at h; cases h), fun k b h => (by rw [look_nil] at h; cases h)⟩

/-! A block more. -/
def putB (B : List (Option Bk)) (k : Nat) (b : Bk) : List (Option Bk) := (if k = B.length then B ++ [none] else B).set k (some b)
theorem putB_len {B : List (Option Bk)} {k : Nat} {b : Bk} : (putB B k b).length = if k = B.length then B.length + 1 else B.length := by
  unfold putB
  rw [List.length_set]
  split <;> simp
theorem look_put {B : List (Option Bk)} {k : Nat} {b : Bk} (h : k ≤ B.length) (i : Nat) : look (putB B k b) i = if i = k then some b else look B i := by
  unfold putB
  by_cases hk : k = B.length
  · rw [if_pos hk]
    by_cases hi : i = k
    · subst hi
      rw [if_pos rfl]
      refine look_get ?_
      rw [List.getElem?_set_self (by simp; omega)]
    · rw [if_neg hi, look, List.getD, List.getElem?_set_ne (fun e => hi e.symm), look, List.getD]
      rcases Nat.lt_or_ge i B.length with h1 | h1
      · rw [List.getElem?_append_left h1]
      · rw [List.getElem?_eq_none (by simp; omega), List.getElem?_eq_none h1]
  · rw [if_neg hk]
    by_cases hi : i = k
    · subst hi
      rw [if_pos rfl]
      refine look_get ?_
      rw [List.getElem?_set_self (by omega)]
    · rw [if_neg hi, look, List.getD, List.getElem?_set_ne (fun e => hi e.symm), look, List.getD]
theorem getD_zeros (q j : Nat) : (List.replicate q (0 : Int)).getD j 0 = 0 := by
  rw [List.getD, List.getElem?_replicate]; split <;> rfl
section
variable {n : Nat} {B : List (Option Bk)} {k a q : Nat}
theorem GoodB.put (h : GoodB n B) (hk : k ≤ B.length) (hf : ∀ j, j < q → wordAt B (a + j) = -1) (ha : a + q ≤ n) (h0 : q = 0 → a = 0) : GoodB n (putB B k ⟨a, List.replicate q 0⟩) := by
  refine ⟨fun i b hb => ?_, fun i b hb hz => ?_, fun i j bi bj p hij hi hj hp => ?_, fun i b hb x hx => ?_⟩
  · rw [look_put hk] at hb
    split at hb
    · injection hb with hb; subst hb; simpa using ha
    · exact h.fits i b hb
  · rw [look_put hk] at hb
    split at hb
    · injection hb with hb; subst hb
      simp at hz; exact h0 hz
    · exact h.zero i b hb hz
  · rw [look_put hk] at hi hj
    split at hi
    · injection hi with hi; subst hi
      rw [if_neg (by omega)] at hj
      obtain ⟨h1, h2⟩ := inB_iff.1 hp
      simp only [List.length_replicate] at h1 h2
      have := hf (p - a) (by omega)
      rw [show a + (p - a) = p by omega] at this
      exact h.free.1 this j bj hj
    · split at hj
      · injection hj with hj; subst hj
        refine inB_not.2 fun ⟨h1, h2⟩ => ?_
        simp only [List.length_replicate] at h1 h2
        have := hf (p - a) (by omega)
        rw [show a + (p - a) = p by omega] at this
        have := h.free.1 this i bi hi
        rw [hp] at this; cases this
      · exact h.apart i j bi bj p hij hi hj hp
  · rw [look_put hk] at hb
    split at hb
    · injection hb with hb; subst hb
      rw [List.eq_of_mem_replicate hx]; omega
    · exact h.w16 i b hb x hx
theorem GoodB.put_word (h : GoodB n B) (hk : k ≤ B.length) (hn : look B k = none) (hf : ∀ j, j < q → wordAt B (a + j) = -1) (ha : a + q ≤ n) (h0 : q = 0 → a = 0) (i : Nat) :
    wordAt (putB B k ⟨a, List.replicate q 0⟩) i = if a ≤ i ∧ i < a + q then 0 else wordAt B i := by
  refine (h.put hk hf ha h0).word ?_
  by_cases hi : a ≤ i ∧ i < a + q
  · rw [if_pos hi]
    exact .inl ⟨k, _, by rw [look_put hk, if_pos rfl], inB_iff.2 (by simpa using hi), (getD_zeros _ _).symm⟩
  · rw [if_neg hi]
    rcases wordAt_is B i with ⟨k', b, h1, h2, h3⟩ | ⟨h1, h2⟩
    · refine .inl ⟨k', b, ?_, h2, h3⟩
      rw [look_put hk, if_neg (by rintro rfl; rw [hn] at h1; cases h1)]; exact h1
    · refine .inr ⟨fun k' b hb => ?_, h2⟩
      rw [look_put hk] at hb
      split at hb
      · injection hb with hb; subst hb
        exact inB_not.2 (by simpa using hi)
      · exact h1 k' b hb
end

/-! A block less. -/
theorem look_del (B : List (Option Bk)) (k i : Nat) : look (B.set k none) i = if i = k then none else look B i := by
  by_cases hi : i = k
  · subst hi
    rw [if_pos rfl]
    rcases Nat.lt_or_ge i B.length with h | h
    · exact look_get (List.getElem?_set_self h)
    · exact look_out (by simpa using h)
  · rw [if_neg hi, look, List.getD, List.getElem?_set_ne (fun e => hi e.symm), look, List.getD]
section
variable {n : Nat} {B : List (Option Bk)} {k : Nat} {b : Bk}
theorem GoodB.sub (h : GoodB n B) {B' : List (Option Bk)} (hs : ∀ i b, look B' i = some b → look B i = some b) : GoodB n B' :=
  ⟨fun i b hb => h.fits i b (hs i b hb), fun i b hb => h.zero i b (hs i b hb), fun i j bi bj p hij hi hj => h.apart i j bi bj p hij (hs i bi hi) (hs j bj hj), fun i b hb => h.w16 i b (hs i b hb)⟩
theorem GoodB.del (h : GoodB n B) : GoodB n (B.set k none) := h.sub fun i b hb => by
  rw [look_del] at hb
  split at hb
  · cases hb
  · exact hb
theorem GoodB.del_word (h : GoodB n B) (hb : look B k = some b) (i : Nat) : wordAt (B.set k none) i = if b.a ≤ i ∧ i < b.a + b.ws.length then -1 else wordAt B i := by
  refine (h.del (k := k)).word ?_
  by_cases hi : b.a ≤ i ∧ i < b.a + b.ws.length
  · rw [if_pos hi]
    refine .inr ⟨fun k' b' hb' => ?_, rfl⟩
    rw [look_del] at hb'
    split at hb'
    · cases hb'
    · rename_i hk
      exact h.apart k k' b b' i (fun e => hk e.symm) hb hb' (inB_iff.2 hi)
  · rw [if_neg hi]
    rcases wordAt_is B i with ⟨k', b', h1, h2, h3⟩ | ⟨h1, h2⟩
    · refine .inl ⟨k', b', ?_, h2, h3⟩
      rw [look_del, if_neg]
      · exact h1
      · rintro rfl; rw [hb] at h1; injection h1 with h1; subst h1; exact hi (inB_iff.1 h2)
    · refine .inr ⟨fun k' b' hb' => ?_, h2⟩
      rw [look_del] at hb'
      split at hb'
      · cases hb'
      · exact h1 k' b' hb'
end

/-! Other words. -/
def overL (l : List Int) (i : Nat) (w : List Int) : List Int := l.take i ++ w ++ l.drop (i + w.length)
theorem overL_len {l w : List Int} {i : Nat} (h : i + w.length ≤ l.length) : (overL l i w).length = l.length := by simp [overL]; omega
theorem overL_getD {l w : List Int} {i : Nat} (h : i + w.length ≤ l.length) (j : Nat) : (overL l i w).getD j 0 = if i ≤ j ∧ j < i + w.length then w.getD (j - i) 0 else l.getD j 0 := by
  simp only [overL, List.getD]
  have ht : (l.take i).length = i := by rw [List.length_take]; omega
  by_cases h1 : j < i
  · rw [if_neg (by omega), List.append_assoc, List.getElem?_append_left (by omega), List.getElem?_take, if_pos h1]
  · by_cases h2 : j < i + w.length
    · rw [if_pos (by omega), List.getElem?_append_left (by simp; omega), List.getElem?_append_right (by omega), ht]
    · rw [if_neg (by omega), List.getElem?_append_right (by simp; omega), List.getElem?_drop]
      congr 2
      simp; omega
theorem overL_mem {l w : List Int} {i : Nat} {x : Int} (h : x ∈ overL l i w) : x ∈ l ∨ x ∈ w := by
  simp only [overL, List.mem_append] at h
  rcases h with (h | h) | h
  · exact .inl (List.mem_of_mem_take h)
  · exact .inr h
  · exact .inl (List.mem_of_mem_drop h)
theorem look_set {B : List (Option Bk)} {k : Nat} {b : Bk} (hk : k < B.length) (i : Nat) : look (B.set k (some b)) i = if i = k then some b else look B i := by
  by_cases hi : i = k
  · subst hi
    rw [if_pos rfl]
    exact look_get (List.getElem?_set_self hk)
  · rw [if_neg hi, look, List.getD, List.getElem?_set_ne (fun e => hi e.symm), look, List.getD]
section
variable {n : Nat} {B : List (Option Bk)} {k i : Nat} {b : Bk} {w : List Int}
theorem GoodB.wr (h : GoodB n B) (hb : look B k = some b) (hi : i + w.length ≤ b.ws.length) (hw : ∀ x ∈ w, 0 ≤ x ∧ x ≤ 65535) : GoodB n (B.set k (some ⟨b.a, overL b.ws i w⟩)) := by
  have hk := look_lt hb
  have hl := overL_len hi
  have key : ∀ j c, look (B.set k (some ⟨b.a, overL b.ws i w⟩)) j = some c → ∃ c', look B j = some c' ∧ c.a = c'.a ∧ c.ws.length = c'.ws.length := fun j c hc => by
    rw [look_set hk] at hc
    split at hc
    · rename_i e; subst e; injection hc with hc; subst hc; exact ⟨b, hb, rfl, hl⟩
    · exact ⟨c, hc, rfl, rfl⟩
  refine ⟨fun j c hc => ?_, fun j c hc hz => ?_, fun p q bp bq z hpq hp hq hz => ?_, fun j c hc x hx => ?_⟩
  · obtain ⟨c', h1, h2, h3⟩ := key j c hc
    rw [h2, h3]; exact h.fits j c' h1
  · obtain ⟨c', h1, h2, h3⟩ := key j c hc
    rw [h2]; exact h.zero j c' h1 (List.eq_nil_of_length_eq_zero (by rw [← h3, hz]; rfl))
  · obtain ⟨c1, g1, g2, g3⟩ := key p bp hp
    obtain ⟨c2, f1, f2, f3⟩ := key q bq hq
    have e1 : inB bp z = inB c1 z := by simp only [inB, g2, g3]
    have e2 : inB bq z = inB c2 z := by simp only [inB, f2, f3]
    rw [e2]; rw [e1] at hz
    exact h.apart p q c1 c2 z hpq g1 f1 hz
  · rw [look_set hk] at hc
    split at hc
    · injection hc with hc; subst hc
      rcases overL_mem hx with h1 | h1
      · exact h.w16 k b hb x h1
      · exact hw x h1
    · exact h.w16 j c hc x hx
theorem GoodB.wr_word (h : GoodB n B) (hb : look B k = some b) (hi : i + w.length ≤ b.ws.length) (hw : ∀ x ∈ w, 0 ≤ x ∧ x ≤ 65535) (j : Nat) :
    wordAt (B.set k (some ⟨b.a, overL b.ws i w⟩)) j = if b.a + i ≤ j ∧ j < b.a + i + w.length then w.getD (j - (b.a + i)) 0 else wordAt B j := by
  have hk := look_lt hb
  have hl := overL_len hi
  refine (h.wr hb hi hw).word ?_
  by_cases hin : inB b j = true
  · obtain ⟨h1, h2⟩ := inB_iff.1 hin
    refine .inl ⟨k, ⟨b.a, overL b.ws i w⟩, by rw [look_set hk, if_pos rfl], inB_iff.2 ⟨h1, by simp only [hl]; exact h2⟩, ?_⟩
    show _ = (overL b.ws i w).getD (j - b.a) 0
    rw [overL_getD hi]
    by_cases hc : b.a + i ≤ j ∧ j < b.a + i + w.length
    · rw [if_pos hc, if_pos (by omega)]; congr 1; omega
    · rw [if_neg hc, if_neg (by omega)]
      have := h.in_ hb (j := j - b.a) (by omega)
      rw [show b.a + (j - b.a) = j by omega] at this
      exact this
  · have hin' := inB_not.1 (by simpa using hin)
    rw [if_neg (by omega)]
    rcases wordAt_is B j with ⟨k', b', h1, h2, h3⟩ | ⟨h1, h2⟩
    · refine .inl ⟨k', b', ?_, h2, h3⟩
      rw [look_set hk, if_neg]
      · exact h1
      · rintro rfl; rw [hb] at h1; injection h1 with h1; subst h1; exact hin h2
    · refine .inr ⟨fun k' b' hb' => ?_, h2⟩
      rw [look_set hk] at hb'
      split at hb'
      · injection hb' with hb'; subst hb'
        refine inB_not.2 ?_
        simp only [hl]; exact hin'
      · exact h1 k' b' hb'
end

/-! The least number that no block has. -/
theorem next_le (B : List (Option Bk)) : nextB B ≤ B.length := List.findIdx_le_length
theorem next_none (B : List (Option Bk)) : look B (nextB B) = none := by
  rcases Nat.lt_or_ge (nextB B) B.length with h | h
  · have h2 : (B[nextB B]'h).isNone = true := List.findIdx_getElem (w := h)
    have h3 : B[nextB B]? = some (B[nextB B]'h) := List.getElem?_eq_getElem h
    rw [look_get h3]
    exact Option.isNone_iff_eq_none.1 h2
  · exact look_out h
theorem next_some {B : List (Option Bk)} {k : Nat} (h : k < nextB B) : look B k ≠ none := by
  have hl : k < B.length := Nat.lt_of_lt_of_le h (next_le B)
  have h2 := List.not_of_lt_findIdx h
  rw [look_get (List.getElem?_eq_getElem hl)]
  intro e; rw [e] at h2; simp at h2
theorem next_is {B : List (Option Bk)} {m : Nat} (h1 : m ≤ B.length) (h2 : ∀ k, k < m → look B k ≠ none) (h3 : m < B.length → look B m = none) : nextB B = m := by
  rcases Nat.lt_trichotomy (nextB B) m with h | h | h
  · exact absurd (next_none B) (h2 _ h)
  · exact h
  · have := next_le B
    exact absurd (h3 (by omega)) (next_some h)
/-- The numbers of the blocks, in ascending order. -/
def idsB (B : List (Option Bk)) : List Nat := (List.range B.length).filter fun k => (look B k).isSome
theorem ids_mem {B : List (Option Bk)} {k : Nat} : k ∈ idsB B ↔ ∃ b, look B k = some b := by
  rw [idsB, List.mem_filter, List.mem_range, Option.isSome_iff_exists]
  exact ⟨fun h => h.2, fun ⟨b, hb⟩ => ⟨look_lt hb, b, hb⟩⟩
theorem ids_rise (B : List (Option Bk)) : (idsB B).Pairwise (· < ·) := List.Pairwise.filter _ List.pairwise_lt_range
theorem ids_nodup (B : List (Option Bk)) : (idsB B).Nodup := (ids_rise B).imp fun h => by omega
end Go.Proofs.Ytgfjfpfhalblgaa
