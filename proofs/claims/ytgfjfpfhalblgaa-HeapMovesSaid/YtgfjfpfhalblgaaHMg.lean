/- Plain facts on what a compaction leaves: the same blocks with the same words, in the same order, no higher. No program is spoken of. -/
import Derived.Test.YtgfjfpfhalblgaaHMc
namespace Go.Proofs.Ytgfjfpfhalblgaa

/-- B' has the blocks of B with their words, no higher, in the same order. -/
structure Moved (B B' : List (Option Bk)) : Prop where
  len : B'.length = B.length
  none_ : ∀ k, look B k = none → look B' k = none
  some_ : ∀ k b, look B k = some b → ∃ a, look B' k = some ⟨a, b.ws⟩ ∧ a ≤ b.a
  ord : ∀ i k, 0 < lenB B i → 0 < lenB B k → (atB B' i < atB B' k ↔ atB B i < atB B k)
theorem Moved.lens {B B' : List (Option Bk)} (h : Moved B B') (k : Nat) : lenB B' k = lenB B k := by
  cases hb : look B k with
  | none => rw [lenB_none hb, lenB_none (h.none_ k hb)]
  | some b =>
    obtain ⟨a, h1, _⟩ := h.some_ k b hb
    rw [lenB_some hb, lenB_some h1]
theorem Moved.trans {B B' B'' : List (Option Bk)} (h : Moved B B') (k : Moved B' B'') : Moved B B'' := by
  refine ⟨k.len.trans h.len, fun i hi => k.none_ i (h.none_ i hi), fun i b hb => ?_, fun i j hi hj => ?_⟩
  · obtain ⟨a, h1, h2⟩ := h.some_ i b hb
    obtain ⟨a', h3, h4⟩ := k.some_ i _ h1
    exact ⟨a', h3, Nat.le_trans h4 h2⟩
  · rw [k.ord i j (by rw [h.lens]; exact hi) (by rw [h.lens]; exact hj), h.ord i j hi hj]
theorem Moved.ids {B B' : List (Option Bk)} (h : Moved B B') : idsB B' = idsB B := by
  rw [idsB, idsB, h.len]
  refine List.filter_congr fun k _ => ?_
  cases hb : look B k with
  | none => rw [h.none_ k hb]
  | some b =>
    obtain ⟨a, h1, _⟩ := h.some_ k b hb
    rw [h1]; rfl
theorem CompIs.moved {n m : Nat} {B B' : List (Option Bk)} {S : List Nat} (h : CompIs n B B' m S) (hg : GoodB n B) : Moved B B' := by
  have at' : ∀ j, j < S.length → atB B' (S.getD j 0) = endS B S j := fun j hj => by
    obtain ⟨b, g1, _, _⟩ := len_some (h.plc.pos hj)
    rw [atB_some (h.put j b hj g1)]
  refine ⟨h.len, fun k hk => by rw [h.old k (lenB_none hk)]; exact hk, fun k b hb => ?_, fun i k hi hk => ?_⟩
  · rcases Nat.eq_zero_or_pos (lenB B k) with h0 | h0
    · exact ⟨b.a, by rw [h.old k h0]; exact hb, Nat.le_refl _⟩
    · obtain ⟨j, hj, rfl⟩ := h.plc.idx h0
      refine ⟨_, h.put j b hj hb, ?_⟩
      have := h.plc.end_le hg hj
      rw [atB_some hb] at this
      exact this
  · obtain ⟨x, hx, rfl⟩ := h.plc.idx hi
    obtain ⟨y, hy, rfl⟩ := h.plc.idx hk
    rw [at' x hx, at' y hy]
    rcases Nat.lt_trichotomy x y with h1 | h1 | h1
    · have := h.plc.lt h1 hy
      have := h.plc.end_lt h1 (Nat.le_of_lt hy)
      constructor <;> intro _ <;> omega
    · subst h1; simp
    · have := h.plc.lt h1 hx
      have := h.plc.end_lt h1 (Nat.le_of_lt hx)
      constructor <;> intro _ <;> omega
theorem len_sub : ∀ {l l' : List Nat}, l.Nodup → (∀ x ∈ l, x ∈ l') → l.length ≤ l'.length
  | [], _, _, _ => Nat.zero_le _
  | x :: r, l', hn, hs => by
    have hx : x ∈ l' := hs x (by simp)
    have hn' := List.nodup_cons.1 hn
    have := len_sub (l := r) (l' := l'.erase x) hn'.2 fun y hy => (List.mem_erase_of_ne (by rintro rfl; exact hn'.1 hy)).2 (hs y (by simp [hy]))
    rw [List.length_erase_of_mem hx] at this
    have hp : 0 < l'.length := List.length_pos_of_mem hx
    simp only [List.length_cons]; omega
theorem CompIs.few {n m : Nat} {B B' : List (Option Bk)} {S : List Nat} (h : CompIs n B B' m S) : m ≤ (idsB B).length := by
  have h1 := movedN_le B S S.length
  have h2 := len_sub (l := S) (l' := idsB B) h.plc.nodup fun x hx => by
    obtain ⟨b, hb, _⟩ := len_some ((h.plc.mem x).1 hx)
    exact ids_mem.2 ⟨b, hb⟩
  rw [h.mv]; omega
/-- What is free, and stands side by side, behind a compaction. -/
theorem CompIs.room {n m : Nat} {B B' : List (Option Bk)} {S : List Nat} (h : CompIs n B B' m S) (hg : GoodB n B) : cntF (wordAt B') n = cntF (wordAt B) n ∧ LongIs (wordAt B') n (cntF (wordAt B) n) := by
  have h1 := cnt_tot hg
  have h2 := cntF_tight h.tight
  have h3 := long_tight h.tight (by omega)
  have e : n - totB B = cntF (wordAt B) n := by omega
  rw [e] at h2 h3
  exact ⟨h2, h3⟩
/-- Moved twice is moved once. -/
theorem CompIs.twice {n m m' : Nat} {B B' B'' : List (Option Bk)} {S S' : List Nat} (h : CompIs n B B' m S) (k : CompIs n B' B'' m' S') : m' = 0 := by
  rw [k.mv]
  refine k.plc.still h.good ?_
  rw [h.tot]; exact h.tight
theorem idsB_len (B : List (Option Bk)) : (idsB B).length ≤ B.length := by
  have := List.length_filter_le (fun k => (look B k).isSome) (List.range B.length)
  rw [List.length_range] at this
  exact this
/-- The words of the block k. -/
def wordsB (B : List (Option Bk)) (k : Nat) : List Int := match look B k with | some b => b.ws | none => []
theorem wordsB_some {B : List (Option Bk)} {k : Nat} {b : Bk} (h : look B k = some b) : wordsB B k = b.ws := by simp only [wordsB, h]
theorem wordsB_len (B : List (Option Bk)) (k : Nat) : (wordsB B k).length = lenB B k := by
  cases hb : look B k with
  | none => simp only [wordsB, lenB, hb]; rfl
  | some b => simp only [wordsB, lenB, hb]
end Go.Proofs.Ytgfjfpfhalblgaa
