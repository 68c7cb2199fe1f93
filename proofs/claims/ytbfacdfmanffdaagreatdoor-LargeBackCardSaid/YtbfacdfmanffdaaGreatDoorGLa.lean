/- What the laws of layer 13 ask of their own calls. -/
import Derived.Test.YtbfacdfmanffdaaGreatDoorGKn
namespace Go.Proofs.YtbfacdfmanffdaaGreatDoor
set_option maxRecDepth 1000000
open Go.ChangeShapes Go.WideShapes Go.ChangeAt Go.RowKit

theorem bss1 {N : Nat → Prop} {w : World} {v : Value} {B : List Int} (h : Bts N w v B) : BssAt (w.alloc (.cells #[v] 22)) (.slice (some ⟨w.heap.size, 0, none⟩) 1 1) [B] := by
  refine ⟨_, 1, rfl, Nat.le_refl _, .inr ⟨_, 0, rfl, fun j xs hj => ?_⟩⟩
  match j, hj with
  | 0, hj => 
    obtain rfl : B = xs := by simpa using hj
    exact ⟨v, (World.cell?_alloc_new w #[v] 22 0).trans rfl, Bts.kind (h.next (below_new _ _)) fun _ _ _ => trivial⟩
  | j + 1, hj => simp at hj
theorem bss2 {N M : Nat → Prop} {w : World} {v u : Value} {B C : List Int} (h : Bts N w v B) (k : Bts M w u C) : BssAt (w.alloc (.cells #[v, u] 22)) (.slice (some ⟨w.heap.size, 0, none⟩) 2 2) [B, C] := by
  refine ⟨_, 2, rfl, Nat.le_refl _, .inr ⟨_, 0, rfl, fun j xs hj => ?_⟩⟩
  match j, hj with
  | 0, hj => 
    obtain rfl : B = xs := by simpa using hj
    exact ⟨v, (World.cell?_alloc_new w #[v, u] 22 0).trans rfl, Bts.kind (h.next (below_new _ _)) fun _ _ _ => trivial⟩
  | 1, hj => 
    obtain rfl : C = xs := by simpa using hj
    exact ⟨u, (World.cell?_alloc_new w #[v, u] 22 1).trans rfl, Bts.kind (k.next (below_new _ _)) fun _ _ _ => trivial⟩
  | j + 2, hj => simp at hj
theorem NumB.from {e0 : Int} {xs : List Int} {w w1 : World} {e : Ending} {w' : World} (hb : Below w.heap.size w w1) (h : NumB e0 xs w1 e w') : NumB e0 xs w e w' := by
  obtain ⟨v, h1, h2, h3⟩ := h
  exact ⟨v, h1, h2, hb.trans (h3.mono hb.size)⟩
end Go.Proofs.YtbfacdfmanffdaaGreatDoor
