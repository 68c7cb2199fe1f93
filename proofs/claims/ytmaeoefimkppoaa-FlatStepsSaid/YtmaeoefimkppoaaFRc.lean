/- What one comes to, by plain lists: the search's invariant. -/
import Derived.Test.YtmaeoefimkppoaaFSo
namespace Go.Proofs.Ytmaeoefimkppoaa.Fl
open Go.Proofs.Ytmaeoefimkppoaa.Wd

theorem nodup_le {l m : List Int} (hn : l.Nodup) (hs : ∀ x ∈ l, x ∈ m) : l.length ≤ m.length := by
  induction l generalizing m with
  | nil => exact Nat.zero_le _
  | cons a r ih =>
    obtain ⟨h1, h2⟩ := List.nodup_cons.1 hn
    have ha := hs a (by simp)
    have := ih (m := m.erase a) h2 fun x hx => (List.mem_erase_of_ne (fun e => h1 (by rw [← e]; exact hx))).2 (hs x (List.mem_cons_of_mem _ hx))
    rw [List.length_erase_of_mem ha] at this
    have := List.length_pos_of_mem ha
    simp only [List.length_cons]
    omega
theorem nodup_all {l m : List Int} (hn : l.Nodup) (hs : ∀ x ∈ l, x ∈ m) (hl : l.length = m.length) : ∀ x ∈ m, x ∈ l := by
  intro x hx
  apply Decidable.byContradiction
  intro hc
  have := nodup_le (l := x :: l) (m := m) (List.nodup_cons.2 ⟨hc, hn⟩) (fun y hy => by
    rcases List.mem_cons.1 hy with rfl | hy
    · exact hx
    · exact hs y hy)
  simp at this
  omega
def LiveE (E : Mem) (j : Int) : Prop := (at_ E j).isSome = true
def SrcE (E : Mem) (rt : Ob) (Rs : List Int) (y : Ob) : Prop := y = rt ∨ ∃ i ∈ Rs, at_ E i = some y
structure RP (E : Mem) (rt : Ob) (Rs : List Int) (todo : List Ob) (X : Ob → Prop) : Prop where
  nodup : Rs.Nodup
  comes : ∀ i ∈ Rs, Comes E (refsO rt) i
  src : ∀ y ∈ todo, SrcE E rt Rs y
  closed : ∀ y, SrcE E rt Rs y → y ∈ todo ∨ X y ∨ ∀ j ∈ refsO y, LiveE E j → j ∈ Rs
section
variable {E : Mem} {rt : Ob} {Rs : List Int} {todo : List Ob} {X : Ob → Prop}
theorem RP.sub (h : RP E rt Rs todo X) : ∀ i ∈ Rs, i ∈ ids E := fun i hi => mem_ids.2 (h.comes i hi).is
theorem RP.le (h : RP E rt Rs todo X) : Rs.length ≤ (ids E).length := nodup_le h.nodup h.sub
theorem rp_start (E : Mem) (rt : Ob) : RP E rt [] [rt] (fun _ => False) where
  nodup := List.nodup_nil
  comes := fun i h => (by cases h)
  src := fun y hy => .inl (List.mem_singleton.1 hy)
  closed := fun y hy => by
    rcases hy with rfl | ⟨i, hi, _⟩
    · exact .inl (by simp)
    · cases hi
theorem RP.pop {x : Ob} (h : RP E rt Rs (todo ++ [x]) (fun _ => False)) : RP E rt Rs todo (· = x) ∧ SrcE E rt Rs x where
  left := ⟨h.nodup, h.comes, fun y hy => h.src y (by simp [hy]), fun y hy => by
    rcases h.closed y hy with h1 | h1 | h1
    · rcases List.mem_append.1 h1 with h2 | h2
      · exact .inl h2
      · exact .inr (.inl (List.mem_singleton.1 h2))
    · exact h1.elim
    · exact .inr (.inr h1)⟩
  right := h.src x (by simp)
theorem SrcE.comes {x : Ob} {j : Int} (hc : ∀ i ∈ Rs, Comes E (refsO rt) i) (h : SrcE E rt Rs x) (hj : j ∈ refsO x) (hl : LiveE E j) : Comes E (refsO rt) j := by
  rcases h with rfl | ⟨i, hi, hx⟩
  · exact .root hj hl
  · exact .step (hc i hi) hx hj hl
theorem SrcE.more {x : Ob} {j : Int} (h : SrcE E rt Rs x) : SrcE E rt (Rs ++ [j]) x := h.imp id fun ⟨i, hi, hx⟩ => ⟨i, by simp [hi], hx⟩
theorem RP.add {x o : Ob} {j : Int} (h : RP E rt Rs todo (· = x)) (hs : SrcE E rt Rs x) (hj : j ∈ refsO x) (ho : at_ E j = some o) (hn : j ∉ Rs) : RP E rt (Rs ++ [j]) (todo ++ [o]) (· = x) where
  nodup := by
    rw [List.nodup_append]
    exact ⟨h.nodup, by simp, fun a ha b hb => by simp at hb; subst hb; rintro rfl; exact hn ha⟩
  comes := fun i hi => by
    rcases List.mem_append.1 hi with hi | hi
    · exact h.comes i hi
    · rw [List.mem_singleton.1 hi]
      exact hs.comes h.comes hj (by unfold LiveE; rw [ho]; rfl)
  src := fun y hy => by
    rcases List.mem_append.1 hy with hy | hy
    · exact (h.src y hy).more
    · rw [List.mem_singleton.1 hy]; exact .inr ⟨j, by simp, ho⟩
  closed := fun y hy => by
    have : SrcE E rt Rs y ∨ y = o := by
      rcases hy with hy | ⟨i, hi, hx⟩
      · exact .inl (.inl hy)
      · rcases List.mem_append.1 hi with hi | hi
        · exact .inl (.inr ⟨i, hi, hx⟩)
        · rw [List.mem_singleton.1 hi, ho] at hx; cases hx; exact .inr rfl
    rcases this with hy | rfl
    · rcases h.closed y hy with h1 | h1 | h1
      · exact .inl (by simp [h1])
      · exact .inr (.inl h1)
      · exact .inr (.inr fun q hq hl => by simp [h1 q hq hl])
    · exact .inl (by simp)
/-- The first k that x names are there. -/
def CurE (E : Mem) (x : Ob) (k : Nat) (Rs : List Int) : Prop := ∀ j ∈ (refsO x).take k, LiveE E j → j ∈ Rs
theorem CurE.zero (E : Mem) (x : Ob) (Rs : List Int) : CurE E x 0 Rs := fun j hj => by simp at hj
theorem CurE.more {x : Ob} {k : Nat} {j : Int} (h : CurE E x k Rs) : CurE E x k (Rs ++ [j]) := fun q hq hl => by simp [h q hq hl]
theorem CurE.next {x : Ob} {k : Nat} (h : CurE E x k Rs) (hk : k < (refsO x).length) (hc : LiveE E ((refsO x).getD k 0) → (refsO x).getD k 0 ∈ Rs) : CurE E x (k + 1) Rs := by
  intro j hj hl
  rw [List.take_succ_eq_append_getElem hk] at hj
  rcases List.mem_append.1 hj with hj | hj
  · exact h j hj hl
  · have e : (refsO x).getD k 0 = (refsO x)[k] := by simp [List.getD, List.getElem?_eq_getElem hk]
    rw [e] at hc
    rw [List.mem_singleton.1 hj] at hl ⊢
    exact hc hl
theorem RP.done {x : Ob} (h : RP E rt Rs todo (· = x)) (hc : CurE E x (refsO x).length Rs) : RP E rt Rs todo (fun _ => False) :=
  ⟨h.nodup, h.comes, h.src, fun y hy => by
    rcases h.closed y hy with h1 | h1 | h1
    · exact .inl h1
    · subst h1
      exact .inr (.inr fun j hj hl => hc j (by rw [List.take_length]; exact hj) hl)
    · exact .inr (.inr h1)⟩
theorem RP.all (h : RP E rt Rs [] (fun _ => False)) (i : Int) : i ∈ Rs ↔ Comes E (refsO rt) i := by
  refine ⟨h.comes i, fun hc => ?_⟩
  induction hc with
  | root h1 h2 =>
    rcases h.closed rt (.inl rfl) with h3 | h3 | h3
    · cases h3
    · exact h3.elim
    · exact h3 _ h1 h2
  | step h1 h2 h3 h4 ih =>
    rcases h.closed _ (.inr ⟨_, ih, h2⟩) with h5 | h5 | h5
    · cases h5
    · exact h5.elim
    · exact h5 _ h3 h4
theorem RP.full (h : RP E rt Rs todo X) (hl : Rs.length = (ids E).length) (i : Int) : i ∈ Rs ↔ Comes E (refsO rt) i :=
  ⟨h.comes i, fun hc => nodup_all h.nodup h.sub hl i (mem_ids.2 hc.is)⟩
theorem RP.lt {j : Int} (h : RP E rt Rs todo X) (hl : LiveE E j) (hn : j ∉ Rs) : Rs.length < (ids E).length := by
  have := nodup_le (l := j :: Rs) (m := ids E) (List.nodup_cons.2 ⟨hn, h.nodup⟩) (fun y hy => by
    rcases List.mem_cons.1 hy with rfl | hy
    · exact mem_ids.2 hl
    · exact h.sub y hy)
  simp at this
  omega
end
end Go.Proofs.Ytmaeoefimkppoaa.Fl
