/- NamesBoth: the plain facts. No condition but those that each statement names. -/
import Derived.Test.YthooeehobhegbaaNRo
import Derived.Test.YthooeehobhegbaaNMn
namespace Go.Proofs.Ythooeehobhegbaa
set_option maxRecDepth 1000000
open Go.ChangeShapes Go.WideShapes Go.ChangeAt Go.RowKit

/-- What becomes of an id that asked for a slot. -/
def Had (n : Nat) (I : Nat → Int) (x : Int) : Prop := x < 1 ∨ (∃ s, 1 ≤ s ∧ SlotIs n I x s) ∨ ∀ i, i < n → I i ≠ 0
section
variable {n : Nat} {I I' : Nat → Int} {id t x : Int} {s : Nat}
theorem BindIs.keep (h : BindIs n I id s t I') : ∀ i, i < n → I i ≠ 0 → I' i = I i := fun i _ h0 => by
  rcases h with ⟨_, _, _, rfl⟩ | ⟨_, _, _, _, rfl⟩ | ⟨_, _, _, _, _, rfl⟩ | ⟨_, _, hl, _, rfl⟩
  · rfl
  · rfl
  · rfl
  · exact upd_ne _ _ (by rintro rfl; exact h0 hl.2.2.1)
theorem Had.keep (h : Had n I x) (hb : BindIs n I id s t I') : Had n I' x := by
  rcases h with h | ⟨s', h1, h2⟩ | h
  · exact .inl h
  · rcases h2 with ⟨_, h3, h4, h5⟩ | ⟨h3, _⟩
    · exact .inr (.inl ⟨s', h1, .inl ⟨h1, h3, h4, by rw [hb.keep (s' - 1) (by omega) (by rw [h5]; exact h4)]; exact h5⟩⟩)
    · omega
  · exact .inr (.inr fun i hi => by rw [hb.keep i hi (h i hi)]; exact h i hi)
theorem BindIs.had (h : BindIs n I id s t I') : Had n I' id := by
  rcases h with ⟨h1, _, _, rfl⟩ | ⟨_, h1, h2, _, rfl⟩ | ⟨_, _, h1, _, _, rfl⟩ | ⟨h0, _, hl, _, rfl⟩
  · exact .inl h1
  · exact .inr (.inl ⟨s, h1, h2⟩)
  · exact .inr (.inr h1)
  · obtain ⟨l1, l2, _, _⟩ := hl
    exact .inr (.inl ⟨s, l1, .inl ⟨l1, l2, by omega, upd_at _ _ _⟩⟩)
/-- Asked again, an id that has no slot gets none. -/
theorem Had.none (h : Had n I x) (ok : IdsOk n I) (h0 : SlotIs n I x 0) : ∃ t : Int, (t == 0) = false ∧ BindIs n I x 0 t I := by
  rcases h with h | ⟨s', h1, h2⟩ | h
  · exact ⟨2, rfl, .inl ⟨h, rfl, rfl, rfl⟩⟩
  · have := h2.eq ok h0; omega
  · by_cases hx : x < 1
    · exact ⟨2, rfl, .inl ⟨hx, rfl, rfl, rfl⟩⟩
    · exact ⟨3, rfl, .inr (.inr (.inl ⟨by omega, h0, h, rfl, rfl, rfl⟩))⟩
theorem slot_pos (ok : IdsOk n I) (h : SlotIs n I x s) (hs : s ≠ 0) : 1 ≤ x ∧ 1 ≤ s ∧ idOf n I s = x := by
  rcases h with ⟨h1, h2, h3, h4⟩ | ⟨h1, _⟩
  · have := ok.nn (s - 1) (by omega)
    refine ⟨by omega, h1, ?_⟩
    have e : (s : Int) = ((s - 1 : Nat) : Int) + 1 := by omega
    rw [e, idOf_at (by omega)]; exact h4
  · exact absurd h1 hs
theorem idOf_zero : idOf n I 0 = 0 := if_neg (by omega)
theorem twice_is {l : List Nat} (h : l ≠ []) : FreeIs n I (intsN l ++ intsN l) 4 I := .inr ⟨fun hh => by
  obtain ⟨a, r, rfl⟩ := List.exists_cons_of_ne_nil h
  have := (List.nodup_append.1 hh.2).2.2 (a : Int) (by simp [intsN]) (a : Int) (by simp [intsN])
  exact this rfl, rfl, rfl⟩
end
theorem Hash.congr {n : Nat} {H : Int → Nat} {I J : Nat → Int} {E : Nat → Nat} (h : Hash n H I E) (he : ∀ i, i < n → I i = J i) : Hash n H J E := by
  have hE : ∀ p, p < 2 * n → E p ≠ 0 → J (E p - 1) = I (E p - 1) := fun p hp h0 => (he _ (by have := h.rng p hp; omega)).symm
  refine ⟨h.rng, fun p hp h0 => by rw [hE p hp h0]; exact h.live p hp h0, h.inj, fun i hi h0 => h.all i hi (by rw [he i hi]; exact h0), fun p q hp hq h0 hd => h.probe p q hp hq h0 (by rw [← hE p hp h0]; exact hd)⟩
theorem TabAt.congr {w : World} {c : Tb} {n : Nat} {I J : Nat → Int} (h : TabAt w c n I) (he : ∀ i, i < n → I i = J i) : TabAt w c n J := by
  obtain ⟨E, bd, low, m, g⟩ := h.ex
  refine ⟨E, bd, low, ⟨m.c0, m.c1, m.c2, m.c3, m.fz, m.ra.congr he, m.re, m.ord, m.lt, m.small⟩, ⟨⟨fun i hi => by rw [← he i hi]; exact g.ids.nn i hi, fun i j hi hj h0 hij => g.ids.uniq i j hi hj (by rw [he i hi]; exact h0) (by rw [he i hi, he j hj]; exact hij)⟩, g.hash.congr he, by rw [g.bd]; exact cntI_congr he, g.low.1, g.low.2.1, fun j hj => by
    have := g.low.2.1
    rw [← he j (by omega)]; exact g.low.2.2 j hj⟩⟩
theorem TabB.congr {W0 w : World} {c : Tb} {n : Nat} {I J : Nat → Int} (h : TabB W0 w c n I) (he : ∀ i, i < n → I i = J i) : TabB W0 w c n J := ⟨h.is.congr he, h.fr, h.bl⟩
/-- The ids that come when all were taken away. -/
def g7 : Nat → Int := fun i => 1000000 + 7 * (i : Int)
theorem g7_apart : Apart g7 100000 := ⟨fun i _ => by unfold g7; omega, fun i j _ _ he => by unfold g7 at he; omega⟩
theorem g7_three {n : Nat} : BindIs n (mI g7 n) 3 0 3 (mI g7 n) := .inr (.inr (.inl ⟨by omega, .inr ⟨rfl, fun i hi he => by
  rw [mI_in _ hi] at he; unfold g7 at he; omega⟩, fun i hi => by rw [mI_in _ hi]; unfold g7; omega, rfl, rfl, rfl⟩))
end Go.Proofs.Ythooeehobhegbaa
