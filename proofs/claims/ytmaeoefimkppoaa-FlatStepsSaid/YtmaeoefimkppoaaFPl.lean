/- The plain memory: by number from 1 on an object, or none; which numbers are there, and what a call answers. Plain lists, no worlds. -/
import Derived.Test.YtmaeoefimkppoaaVSpo
namespace Go.Proofs.Ytmaeoefimkppoaa.Fl
open Go.Proofs.Ytmaeoefimkppoaa.Wd

section
variable {α β : Type}
def at_ (L : List (Option α)) (i : Int) : Option α := if 1 ≤ i then (L[(i - 1).toNat]?).join else none
def ids (L : List (Option α)) : List Int := ((List.range L.length).map fun j => ((j + 1 : Nat) : Int)).filter fun i => (at_ L i).isSome
def mapO (f : α → β) (L : List (Option α)) : List (Option β) := L.map (Option.map f)
def mask (S : Int → Bool) (L : List (Option α)) : List (Option α) := L.mapIdx fun j x => if S ((j + 1 : Nat) : Int) = true then x else none
def setAt (L : List (Option α)) (i : Int) (x : Option α) : List (Option α) := L.set (i - 1).toNat x

theorem at_none {L : List (Option α)} {i : Int} (h : i < 1 ∨ (L.length : Int) < i) : at_ L i = none := by
  unfold at_
  split
  · rw [List.getElem?_eq_none (by omega)]; rfl
  · rfl
theorem at_rng {L : List (Option α)} {i : Int} {x : α} (h : at_ L i = some x) : 1 ≤ i ∧ i ≤ L.length := by
  apply Decidable.byContradiction
  intro hc
  rw [at_none (by omega)] at h
  cases h
theorem at_get {L : List (Option α)} (j : Nat) : at_ L ((j + 1 : Nat) : Int) = (L[j]?).join := by
  unfold at_
  rw [if_pos (by omega), show (((j + 1 : Nat) : Int) - 1).toNat = j by omega]
theorem at_push (L : List (Option α)) (x : Option α) (i : Int) : at_ (L ++ [x]) i = if i = L.length + 1 then x else at_ L i := by
  by_cases h1 : 1 ≤ i
  · obtain ⟨j, hj⟩ : ∃ j : Nat, i = ((j + 1 : Nat) : Int) := ⟨(i - 1).toNat, by omega⟩
    subst hj
    rw [at_get, at_get]
    by_cases h2 : j = L.length
    · subst h2
      rw [if_pos (by omega)]
      simp
    · rw [if_neg (by omega)]
      by_cases h3 : j < L.length
      · rw [List.getElem?_append_left h3]
      · rw [List.getElem?_eq_none (by simp; omega), List.getElem?_eq_none (by omega)]
  · rw [at_none (by omega), at_none (by omega), if_neg (by omega)]
theorem at_set (L : List (Option α)) {i : Int} (x : Option α) (h1 : 1 ≤ i) (h2 : i ≤ L.length) (j : Int) : at_ (setAt L i x) j = if j = i then x else at_ L j := by
  by_cases h3 : 1 ≤ j
  · obtain ⟨q, hq⟩ : ∃ q : Nat, j = ((q + 1 : Nat) : Int) := ⟨(j - 1).toNat, by omega⟩
    obtain ⟨p, hp⟩ : ∃ p : Nat, i = ((p + 1 : Nat) : Int) := ⟨(i - 1).toNat, by omega⟩
    subst hq hp
    rw [at_get, at_get]
    unfold setAt
    rw [show (((p + 1 : Nat) : Int) - 1).toNat = p by omega, List.getElem?_set]
    by_cases h : q = p
    · subst h
      rw [if_pos rfl, if_pos (by omega), if_pos rfl]; rfl
    · rw [if_neg (Ne.symm h), if_neg (by omega)]
  · rw [at_none (by omega), at_none (by omega), if_neg (by omega)]
theorem at_map (f : α → β) (L : List (Option α)) (i : Int) : at_ (mapO f L) i = (at_ L i).map f := by
  unfold at_ mapO
  split
  · rw [List.getElem?_map]
    cases L[(i - 1).toNat]? with
    | none => rfl
    | some x => cases x <;> rfl
  · rfl
theorem at_mask (S : Int → Bool) (L : List (Option α)) (i : Int) : at_ (mask S L) i = if S i = true then at_ L i else none := by
  by_cases h1 : 1 ≤ i
  · obtain ⟨j, hj⟩ : ∃ j : Nat, i = ((j + 1 : Nat) : Int) := ⟨(i - 1).toNat, by omega⟩
    subst hj
    rw [at_get, at_get]
    unfold mask
    rw [List.getElem?_mapIdx]
    cases L[j]? with
    | none => simp
    | some x => simp only [Option.map_some]; split <;> rfl
  · rw [at_none (by omega), at_none (by omega)]; split <;> rfl
theorem mask_len (S : Int → Bool) (L : List (Option α)) : (mask S L).length = L.length := by simp [mask]
theorem set_len (L : List (Option α)) (i : Int) (x : Option α) : (setAt L i x).length = L.length := by simp [setAt]
theorem mapO_len (f : α → β) (L : List (Option α)) : (mapO f L).length = L.length := by simp [mapO]
theorem at_ext {L M : List (Option α)} (hl : L.length = M.length) (h : ∀ i, at_ L i = at_ M i) : L = M := by
  apply List.ext_getElem hl
  intro j h1 h2
  have := h ((j + 1 : Nat) : Int)
  rw [at_get, at_get, List.getElem?_eq_getElem h1, List.getElem?_eq_getElem h2] at this
  exact this
theorem mem_ids {L : List (Option α)} {i : Int} : i ∈ ids L ↔ (at_ L i).isSome = true := by
  unfold ids
  rw [List.mem_filter]
  constructor
  · exact fun h => h.2
  · intro h
    refine ⟨?_, h⟩
    obtain ⟨x, hx⟩ := Option.isSome_iff_exists.1 h
    have := at_rng hx
    rw [List.mem_map]
    exact ⟨(i - 1).toNat, List.mem_range.2 (by omega), by omega⟩
theorem ids_rise (L : List (Option α)) : (ids L).Pairwise (· < ·) := by
  unfold ids
  refine List.Pairwise.filter _ ?_
  rw [List.pairwise_map]
  exact List.pairwise_lt_range.imp fun h => by omega
theorem ids_nodup (L : List (Option α)) : (ids L).Nodup := (ids_rise L).imp fun h => by omega
theorem ids_rng {L : List (Option α)} {i : Int} (h : i ∈ ids L) : 1 ≤ i ∧ i ≤ L.length := by
  obtain ⟨x, hx⟩ := Option.isSome_iff_exists.1 (mem_ids.1 h)
  exact at_rng hx
theorem ids_le (L : List (Option α)) : (ids L).length ≤ L.length := by
  unfold ids
  refine Nat.le_trans (List.length_filter_le _ _) ?_
  simp
theorem rise_ext {l m : List Int} (hl : l.Pairwise (· < ·)) (hm : m.Pairwise (· < ·)) (h : ∀ x, x ∈ l ↔ x ∈ m) : l = m := by
  induction l generalizing m with
  | nil =>
    cases m with
    | nil => rfl
    | cons b r => exact absurd ((h b).2 (by simp)) (by simp)
  | cons a l ih =>
    cases m with
    | nil => exact absurd ((h a).1 (by simp)) (by simp)
    | cons b r =>
      obtain ⟨h1, h2⟩ := List.pairwise_cons.1 hl
      obtain ⟨h3, h4⟩ := List.pairwise_cons.1 hm
      have e : a = b := by
        rcases List.mem_cons.1 ((h a).1 (by simp)) with e | e
        · exact e
        rcases List.mem_cons.1 ((h b).2 (by simp)) with e' | e'
        · exact e'.symm
        have := h3 a e
        have := h1 b e'
        omega
      subst e
      congr 1
      refine ih h2 h4 fun x => ?_
      constructor
      · intro hx
        rcases List.mem_cons.1 ((h x).1 (List.mem_cons_of_mem _ hx)) with e | e
        · have := h1 x hx; omega
        · exact e
      · intro hx
        rcases List.mem_cons.1 ((h x).2 (List.mem_cons_of_mem _ hx)) with e | e
        · have := h3 x hx; omega
        · exact e
theorem ids_congr {L : List (Option α)} {M : List (Option β)} (h : ∀ i, (at_ L i).isSome = (at_ M i).isSome) : ids L = ids M :=
  rise_ext (ids_rise L) (ids_rise M) fun x => by rw [mem_ids, mem_ids, h]
theorem ids_push (L : List (Option α)) (x : α) : ids (L ++ [some x]) = ids L ++ [(L.length : Int) + 1] := by
  refine rise_ext (ids_rise _) ?_ fun i => ?_
  · rw [List.pairwise_append]
    refine ⟨ids_rise L, by simp, fun a ha b hb => ?_⟩
    have := ids_rng ha
    simp at hb
    omega
  · rw [mem_ids, at_push, List.mem_append, mem_ids]
    by_cases h : i = L.length + 1
    · simp [h]
    · simp [h]
theorem ids_mapO (f : α → β) (L : List (Option α)) : ids (mapO f L) = ids L := ids_congr fun i => by rw [at_map]; cases at_ L i <;> rfl
theorem mapO_push (f : α → β) (L : List (Option α)) (x : Option α) : mapO f (L ++ [x]) = mapO f L ++ [x.map f] := by simp [mapO]
theorem mapO_set (f : α → β) (L : List (Option α)) (i : Int) (x : Option α) : mapO f (setAt L i x) = setAt (mapO f L) i (x.map f) := by simp [mapO, setAt, List.map_set]
theorem mapO_mask (f : α → β) (S : Int → Bool) (L : List (Option α)) : mapO f (mask S L) = mask S (mapO f L) := by
  refine at_ext (by rw [mapO_len, mask_len, mask_len, mapO_len]) fun i => ?_
  rw [at_map, at_mask, at_mask, at_map]
  split <;> rfl
end

/-- The memory as its objects alone. -/
abbrev Mem := List (Option Ob)
def idF (E : Mem) (o : Int) : Int := if (at_ E (namV o)).isSome = true then namV o else 0
def errF (E : Mem) (o : Int) : Int := if (at_ E (namV o)).isSome = true then 0 else 4
def opE (E : Mem) (o k i : Int) : Int := match at_ E (namV o) with
  | none => 4
  | some x => if x.k = k then (if 0 ≤ i ∧ i < (sizeO x : Nat) then 0 else 21) else 20
def zeroO : Ob := ⟨0, 0, [], []⟩
def objF (E : Mem) (o : Int) : Ob := (at_ E (namV o)).getD zeroO
def blk (c k : Int) (n : Nat) : Ob := ⟨c, k, if k = 1 then List.replicate n 2 else [], if k = 2 then List.replicate n 0 else []⟩
def okN (c k n : Int) : Bool := namB c && decide (k = 1 ∨ k = 2) && decide (0 ≤ n ∧ n ≤ 1000)
theorem okO_blk {c k : Int} {n : Nat} (hn : n ≤ 1000) : okO (blk c k n) = okN c k n := by
  rw [Bool.eq_iff_iff, okO_iff]
  simp only [okN, Bool.and_eq_true, decide_eq_true_eq, blk]
  constructor
  · rintro ⟨h1, ⟨h2, _⟩ | ⟨h2, _⟩⟩
    · exact ⟨⟨h1, .inl h2⟩, by omega, by omega⟩
    · exact ⟨⟨h1, .inr h2⟩, by omega, by omega⟩
  · rintro ⟨⟨h1, h2 | h2⟩, _⟩
    · subst h2
      refine ⟨h1, .inl ⟨rfl, by simp, by simpa using hn, ?_⟩⟩
      intro v hv
      simp at hv
      rw [hv.2]; decide
    · subst h2
      exact ⟨h1, .inr ⟨rfl, by simp, by simpa using hn⟩⟩
/-- What a new one is answered, and what the memory is then. -/
def newF (E : Mem) (c k n : Int) : Mem := if okN c k n = true then E ++ [some (blk c k n.toNat)] else E
def newN (E : Mem) (c k n : Int) : Int := if okN c k n = true then 2 * ((E.length : Int) + 1) else 0
def newE (c k n : Int) : Int := if okN c k n = true then 0 else 2
def fetchN (E : Mem) (o i : Int) : Int := if opE E o 1 i = 0 then (objF E o).w.getD i.toNat 0 else 0
def byteN (E : Mem) (o i : Int) : Int := if opE E o 2 i = 0 then (objF E o).b.getD i.toNat 0 else 0
def setE (E : Mem) (o i v : Int) : Int := if opE E o 1 i = 0 then (if valB v = true then 0 else 2) else opE E o 1 i
def setF (E : Mem) (o i v : Int) : Mem := if setE E o i v = 0 then setAt E (namV o) (some { objF E o with w := (objF E o).w.set i.toNat v }) else E
def bytB (v : Int) : Bool := decide (0 ≤ v ∧ v ≤ 255)
def setbE (E : Mem) (o i v : Int) : Int := if opE E o 2 i = 0 then (if bytB v = true then 0 else 2) else opE E o 2 i
def setbF (E : Mem) (o i v : Int) : Mem := if setbE E o i v = 0 then setAt E (namV o) (some { objF E o with b := (objF E o).b.set i.toNat v }) else E
def becE (E : Mem) (a b : Int) : Int := if errF E a = 0 then errF E b else 4
def becF (E : Mem) (a b : Int) : Mem := if becE E a b = 0 then setAt (setAt E (namV a) (at_ E (namV b))) (namV b) (at_ E (namV a)) else E
def nxt (E : Mem) (o : Int) : Option Int := (ids E).find? fun i => decide (namV o < i)
def nextN (E : Mem) (o : Int) : Int := ((nxt E o).map fun i => 2 * i).getD 0
def nextB (E : Mem) (o : Int) : Bool := (nxt E o).isSome
/-- What one comes to. -/
inductive Comes (E : Mem) (rs : List Int) : Int → Prop
  | root {i : Int} : i ∈ rs → (at_ E i).isSome = true → Comes E rs i
  | step {i j : Int} {x : Ob} : Comes E rs i → at_ E i = some x → j ∈ refsO x → (at_ E j).isSome = true → Comes E rs j
theorem Comes.is {E : Mem} {rs : List Int} {i : Int} (h : Comes E rs i) : (at_ E i).isSome = true := by
  cases h <;> assumption
noncomputable def comesB (E : Mem) (rs : List Int) (i : Int) : Bool := @decide (Comes E rs i) (Classical.propDecidable _)
theorem comesB_iff {E : Mem} {rs : List Int} {i : Int} : comesB E rs i = true ↔ Comes E rs i := by simp [comesB]
noncomputable def collF (E : Mem) (rs : List Int) : Mem := mask (comesB E rs) E
noncomputable def collN (E : Mem) (rs : List Int) : Int := ((ids E).length : Int) - ((ids (collF E rs)).length : Int)

/-- All objects are such as may be. -/
def GoodM (E : Mem) : Prop := ∀ i x, at_ E i = some x → okO x = true ∧ ByL x.b
theorem GoodM.push {E : Mem} (h : GoodM E) {x : Ob} (hx : okO x = true) (hb : ByL x.b) : GoodM (E ++ [some x]) := by
  intro i y hy
  rw [at_push] at hy
  split at hy
  · cases hy; exact ⟨hx, hb⟩
  · exact h i y hy
theorem GoodM.set {E : Mem} (h : GoodM E) {i : Int} {x : Option Ob} (hx : ∀ y, x = some y → okO y = true ∧ ByL y.b) : GoodM (setAt E i x) := by
  intro j y hy
  by_cases hr : 1 ≤ i ∧ i ≤ E.length
  · rw [at_set _ _ hr.1 hr.2] at hy
    split at hy
    · exact hx y hy
    · exact h j y hy
  · by_cases h1 : 1 ≤ i
    · have : setAt E i x = E := by unfold setAt; exact List.set_eq_of_length_le (by omega)
      rw [this] at hy
      exact h j y hy
    · unfold setAt at hy
      rw [show (i - 1).toNat = 0 by omega] at hy
      cases E with
      | nil => exact h j y hy
      | cons a r =>
        have e : (a :: r).set 0 x = setAt (a :: r) 1 x := rfl
        rw [e, at_set _ _ (by omega) (by simp; omega)] at hy
        split at hy
        · exact hx y hy
        · exact h j y hy
theorem GoodM.mask {E : Mem} (h : GoodM E) (S : Int → Bool) : GoodM (mask S E) := by
  intro i y hy
  rw [at_mask] at hy
  split at hy
  · exact h i y hy
  · cases hy
theorem byL_rep (n : Nat) : ByL (List.replicate n 0) := fun x hx => by simp at hx; omega
theorem blk_byL (c k : Int) (n : Nat) : ByL (blk c k n).b := by
  unfold blk
  dsimp only
  split
  · exact byL_rep n
  · intro x hx; cases hx
end Go.Proofs.Ytmaeoefimkppoaa.Fl
