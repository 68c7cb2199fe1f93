/- Plain facts on the chapter's rows and the space's, for the law ExtentSteps: a row less is the same row less. -/
import Derived.Test.YtkjpemgoiobeeaaDoorEDo
namespace Go.Proofs.YtkjpemgoiobeeaaDoor
open Go.ChangeShapes Go.WideShapes Go.ChangeAt Go.RowKit

theorem rowsOf_append (L M : List RV) : rowsOf (L ++ M) = rowsOf L ++ rowsOf M := by simp [rowsOf]
theorem rowsOf_erase (L : List RV) (i : Nat) : rowsOf (L.eraseIdx i) = (rowsOf L).eraseIdx i := by
  unfold rowsOf
  induction L generalizing i with
  | nil => rfl
  | cons p L ih =>
    cases i with
    | zero => rfl
    | succ i => simp [ih i]
theorem erase_without : ∀ {R : List Row}, R.Pairwise Off → ∀ {i : Nat} (h : i < R.length), R.eraseIdx i = without R (ext R[i])
  | [], _, i, h => by simp at h
  | r :: R, hp, 0, _ => by
    obtain ⟨h1, _⟩ := List.pairwise_cons.1 hp
    have e : R.filter (fun q => !decide (ext q = ext r)) = R := List.filter_eq_self.2 fun q hq => by
      have := ext_inj (h1 q hq)
      simpa using fun e => this e.symm
    simp [without, e]
  | r :: R, hp, i + 1, h => by
    obtain ⟨h1, h2⟩ := List.pairwise_cons.1 hp
    have hi : i < R.length := by simpa using h
    have ih := erase_without h2 hi
    have hne : ext r ≠ ext R[i] := ext_inj (h1 _ (List.getElem_mem hi))
    simp only [List.eraseIdx_cons_succ, List.getElem_cons_succ]
    rw [ih]
    unfold without
    rw [List.filter_cons_of_pos (by simpa using hne)]
theorem rows_less {n : Nat} {L : List RV} (g : Good n (rowsOf L)) {i : Nat} (h : i < (rowsOf L).length) {x : Ext} (hx : ext (rowsOf L)[i] = x) : rowsOf (L.eraseIdx i) = without (rowsOf L) x := by
  rw [rowsOf_erase, erase_without g.apart h, hx]
/-- Is it among those that were told, and which? -/
def pickX (X : List Ext) (i : Int) : Ext := if h : 0 ≤ i ∧ i.toNat < X.length then X[i.toNat]'h.2 else ⟨-1, 0, 0⟩
theorem pickX_in {X : List Ext} {k : Nat} (h : k < X.length) : pickX X k = X[k] := by
  unfold pickX
  rw [dif_pos ⟨by omega, by simpa using h⟩]
  simp
theorem pickX_low {X : List Ext} {i : Int} (h : i < 0) : pickX X i = ⟨-1, 0, 0⟩ := by
  unfold pickX
  rw [dif_neg (by omega)]
theorem pickX_high {X : List Ext} {i : Int} (h : (X.length : Int) ≤ i) : pickX X i = ⟨-1, 0, 0⟩ := by
  unfold pickX
  rw [dif_neg (by omega)]
theorem pickX_wf {X : List Ext} (h : ∀ x ∈ X, x.wf) (i : Int) : (pickX X i).wf := by
  unfold pickX
  split
  · exact h _ (List.getElem_mem _)
  · exact ⟨by decide, by decide, by decide⟩
/-- What lives was put so: its numbers. -/
theorem live_row {R : List Row} {x : Ext} (h : isX R x = true) : ∃ r ∈ R, x = ⟨r.1, len r, r.2.length⟩ := by
  obtain ⟨r, hr, he⟩ := isX_iff.1 h
  exact ⟨r, hr, he.symm⟩
theorem rows_room {n : Nat} {L : List RV} (g : Good n (rowsOf L)) (hn : n ≤ 1000000) : ∀ p ∈ L, p.1.1 + len p.1 ≤ 1000000 := fun p hp => by
  have := g.room p.1 (List.mem_map.2 ⟨p, hp, rfl⟩)
  omega
theorem rows_few {n : Nat} {L : List RV} (g : Good n (rowsOf L)) (hn : n ≤ 1000000) : L.length ≤ 1000000 := by
  have h1 := len_total (rowsOf L)
  have h2 := total_le g
  simp [rowsOf] at h1
  simp [rowsOf] at h2
  omega
end Go.Proofs.YtkjpemgoiobeeaaDoor
