/- The document's Add. -/
import Derived.Test.YtbfacdfmanffdaaGreatDoorGPr
namespace Go.Proofs.YtbfacdfmanffdaaGreatDoor
set_option maxRecDepth 1000000
open Go.ChangeShapes Go.WideShapes Go.ChangeAt Go.RowKit

theorem Bts.next {N : Nat → Prop} {w w' : World} {v : Value} {xs : List Int} (h : Bts N w v xs) (hb : Below w.heap.size w w') : Bts N w' v xs := Bts.only h (F := fun _ => False) (Only.of_below hb) (fun _ _ h => h)
/-- The slice value v has the rows of bytes Ls. -/
def BssAt (w : World) (v : Value) (Ls : List (List Int)) : Prop :=
  ∃ a c, v = .slice a Ls.length c ∧ Ls.length ≤ c ∧ (Ls = [] ∨ ∃ b off, a = some ⟨b, off, none⟩ ∧ ∀ (j : Nat) (xs : List Int), Ls[j]? = some xs → ∃ u, w.cell? ⟨b, off + j, none⟩ = some u ∧ Bts (fun _ => True) w u xs)
theorem BssAt.next {w w' : World} {v : Value} {Ls : List (List Int)} (h : BssAt w v Ls) (hb : Below w.heap.size w w') : BssAt w' v Ls := by
  obtain ⟨a, c, rfl, hc, h⟩ := h
  refine ⟨a, c, rfl, hc, h.imp id fun ⟨b, off, ha, h⟩ => ⟨b, off, ha, fun j xs hx => ?_⟩⟩
  obtain ⟨u, h1, h2⟩ := h j xs hx
  exact ⟨u, (hb.cell (p := ⟨b, off + j, none⟩) (World.block_lt_of_cell? _ _ h1)).trans h1, h2.next hb⟩
theorem BssAt.at_ {w : World} {v : Value} {Ls : List (List Int)} (h : BssAt w v Ls) {j : Nat} (hj : j < Ls.length) :
    ∃ b off c a2 c2, v = .slice (some ⟨b, off, none⟩) Ls.length c ∧ w.cell? ⟨b, off + j, none⟩ = some (.slice a2 Ls[j].length c2) ∧ Bts (fun _ => True) w (.slice a2 Ls[j].length c2) Ls[j] := by
  obtain ⟨a, c, rfl, hc, h⟩ := h
  rcases h with rfl | ⟨b, off, rfl, h⟩
  · cases hj
  · obtain ⟨u, h1, h2⟩ := h j _ (List.getElem?_eq_getElem hj)
    obtain ⟨a2, c2, rfl, _⟩ := Bts.form h2
    exact ⟨b, off, c, a2, c2, rfl, h1, h2⟩
def sumL (Ls : List (List Int)) : Int := (Ls.map val).sum
theorem sumL_snoc (Ls : List (List Int)) (x : List Int) : sumL (Ls ++ [x]) = sumL Ls + val x := by simp [sumL]
theorem sumL_nonneg : ∀ {Ls : List (List Int)}, (∀ x ∈ Ls, Bytes x) → 0 ≤ sumL Ls
  | [], _ => by simp [sumL]
  | x :: r, h => by
    have h1 := val_nonneg (h x (by simp))
    have h2 := sumL_nonneg (Ls := r) fun y hy => h y (by simp [hy])
    simp only [sumL, List.map_cons, List.sum_cons] at *
    omega
def allR (A : List Int) (Ls : List (List Int)) : Prop := rightB A = true ∧ ∀ x ∈ Ls, rightB x = true
instance (A : List Int) (Ls : List (List Int)) : Decidable (allR A Ls) := by unfold allR; infer_instance
def addE (A : List Int) (Ls : List (List Int)) : Int := if ¬ allR A Ls then 2 else toldE (dig (val A + sumL Ls).toNat)
def addO (A : List Int) (Ls : List (List Int)) : List Int := if ¬ allR A Ls then [] else toldO (dig (val A + sumL Ls).toNat)
theorem add_not {A : List Int} {Ls : List (List Int)} (h : ¬ allR A Ls) : addE A Ls = 2 ∧ addO A Ls = [] := ⟨by unfold addE; rw [if_pos h], by unfold addO; rw [if_pos h]⟩
theorem add_yes {A : List Int} {Ls : List (List Int)} (h : allR A Ls) : addE A Ls = toldE (dig (val A + sumL Ls).toNat) ∧ addO A Ls = toldO (dig (val A + sumL Ls).toNat) := ⟨by unfold addE; rw [if_neg (fun h2 => h2 h)], by unfold addO; rw [if_neg (fun h2 => h2 h)]⟩
theorem take_snoc {α : Type} {L : List α} {i : Nat} {x : α} (h : L[i]? = some x) : L.take (i + 1) = L.take i ++ [x] := by rw [List.take_add_one, h]; rfl
end Go.Proofs.YtbfacdfmanffdaaGreatDoor
