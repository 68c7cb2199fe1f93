/- A struct of four cells in a block of its own; what a function returns out of one. -/
import Derived.Test.YtmcikjihkgplaaaDoorKMa
import Derived.Laws.ResultCell
namespace Go.Proofs.YtmcikjihkgplaaaDoor
set_option maxRecDepth 1000000
open Go.ChangeShapes Go.WideShapes Go.ChangeAt Go.RowKit

def Bx (p : Nat) (x y z u : Value) (w : World) : Prop := w.cell? ⟨p, 0, none⟩ = some x ∧ w.cell? ⟨p, 1, none⟩ = some y ∧ w.cell? ⟨p, 2, none⟩ = some z ∧ w.cell? ⟨p, 3, none⟩ = some u
theorem Bx.kept {p : Nat} {x y z u : Value} {w w' : World} {B : Nat} (h : Bx p x y z u w) (hb : Below B w w') (hp : p < B) : Bx p x y z u w' :=
  ⟨(hb.cell (p := ⟨p, 0, none⟩) hp).trans h.1, (hb.cell (p := ⟨p, 1, none⟩) hp).trans h.2.1, (hb.cell (p := ⟨p, 2, none⟩) hp).trans h.2.2.1, (hb.cell (p := ⟨p, 3, none⟩) hp).trans h.2.2.2⟩
/-- A struct of four cells in a block of its own. -/
def Box (p : Nat) (x y z u : Value) (w : World) : Prop := Bx p x y z u w ∧ (∀ j, w.frozen? ⟨p, j, none⟩ = false) ∧ p < w.heap.size
theorem Box.kept {p : Nat} {x y z u : Value} {w w' : World} {B : Nat} (h : Box p x y z u w) (hb : Below B w w') (hp : p < B) (hB : B ≤ w.heap.size) : Box p x y z u w' :=
  ⟨h.1.kept hb hp, fun j => (World.frozen?_of_block (w := w) (a := ⟨p, j, none⟩) (hb.block p hp)).trans (h.2.1 j), Nat.lt_of_lt_of_le hp (Nat.le_trans hB hb.size)⟩
theorem box_new (w : World) (x y z u : Value) : Box w.heap.size x y z u (w.alloc (.cells #[x, y, z, u] 25)) := by
  refine ⟨⟨?_, ?_, ?_, ?_⟩, fun j => ?_, by simp⟩
  · rw [World.cell?_alloc_at _ _ _ _ rfl]; rfl
  · rw [World.cell?_alloc_at _ _ _ _ rfl]; rfl
  · rw [World.cell?_alloc_at _ _ _ _ rfl]; rfl
  · rw [World.cell?_alloc_at _ _ _ _ rfl]; rfl
  · unfold World.frozen?
    rw [heap_alloc_new]
    simp
theorem Box.put {w : World} {p : Nat} {x y z u : Value} (h : Box p x y z u w) (x' y' z' u' : Value) :
    Box p x' y' z' u' ((((w.setCell ⟨p, 0, none⟩ x').setCell ⟨p, 1, none⟩ y').setCell ⟨p, 2, none⟩ z').setCell ⟨p, 3, none⟩ u') := by
  obtain ⟨⟨h1, h2, h3, h4⟩, h5, h6⟩ := h
  refine ⟨⟨?_, ?_, ?_, ?_⟩, fun j => ?_, by simpa [World.setCell] using h6⟩
  · rw [World.cell?_setCell_other _ _ _ _ (by simp), World.cell?_setCell_other _ _ _ _ (by simp), World.cell?_setCell_other _ _ _ _ (by simp), World.cell?_setCell_same _ _ _ h1]
  · rw [World.cell?_setCell_other _ _ _ _ (by simp), World.cell?_setCell_other _ _ _ _ (by simp), World.cell?_setCell_same _ _ _ ((World.cell?_setCell_other _ _ _ _ (by simp)).trans h2)]
  · rw [World.cell?_setCell_other _ _ _ _ (by simp), World.cell?_setCell_same _ _ _ ((World.cell?_setCell_other _ _ _ _ (by simp)).trans ((World.cell?_setCell_other _ _ _ _ (by simp)).trans h3))]
  · rw [World.cell?_setCell_same _ _ _ ((World.cell?_setCell_other _ _ _ _ (by simp)).trans ((World.cell?_setCell_other _ _ _ _ (by simp)).trans ((World.cell?_setCell_other _ _ _ _ (by simp)).trans h4)))]
  · rw [World.frozen?_setCell, World.frozen?_setCell, World.frozen?_setCell, World.frozen?_setCell]; exact h5 j
theorem Box.put2 {w : World} {p : Nat} {x y z u : Value} (h : Box p x y z u w) (z' : Value) : Box p x y z' u (w.setCell ⟨p, 2, none⟩ z') := by
  obtain ⟨⟨h1, h2, h3, h4⟩, h5, h6⟩ := h
  refine ⟨⟨?_, ?_, ?_, ?_⟩, fun j => ?_, by simpa [World.setCell] using h6⟩
  · rw [World.cell?_setCell_other _ _ _ _ (by simp)]; exact h1
  · rw [World.cell?_setCell_other _ _ _ _ (by simp)]; exact h2
  · rw [World.cell?_setCell_same _ _ _ h3]
  · rw [World.cell?_setCell_other _ _ _ _ (by simp)]; exact h4
  · rw [World.frozen?_setCell]; exact h5 j
theorem Box.put3 {w : World} {p : Nat} {x y z u : Value} (h : Box p x y z u w) (u' : Value) : Box p x y z u' (w.setCell ⟨p, 3, none⟩ u') := by
  obtain ⟨⟨h1, h2, h3, h4⟩, h5, h6⟩ := h
  refine ⟨⟨?_, ?_, ?_, ?_⟩, fun j => ?_, by simpa [World.setCell] using h6⟩
  · rw [World.cell?_setCell_other _ _ _ _ (by simp)]; exact h1
  · rw [World.cell?_setCell_other _ _ _ _ (by simp)]; exact h2
  · rw [World.cell?_setCell_other _ _ _ _ (by simp)]; exact h3
  · rw [World.cell?_setCell_same _ _ _ h4]
  · rw [World.frozen?_setCell]; exact h5 j
theorem Box.other {w : World} {p g : Nat} {x y z u : Value} (h : Box p x y z u w) (hg : p ≠ g) (j : Nat) (v : Value) : Box p x y z u (w.setCell ⟨g, j, none⟩ v) := by
  obtain ⟨⟨h1, h2, h3, h4⟩, h5, h6⟩ := h
  refine ⟨⟨?_, ?_, ?_, ?_⟩, fun j => ?_, by simpa [World.setCell] using h6⟩
  · rw [World.cell?_setCell_other _ _ _ _ (by intro e; injection e; omega)]; exact h1
  · rw [World.cell?_setCell_other _ _ _ _ (by intro e; injection e; omega)]; exact h2
  · rw [World.cell?_setCell_other _ _ _ _ (by intro e; injection e; omega)]; exact h3
  · rw [World.cell?_setCell_other _ _ _ _ (by intro e; injection e; omega)]; exact h4
  · rw [World.frozen?_setCell]; exact h5 j
theorem load_box {w : World} {p : Nat} {x y z u : Int} (hb : Box p (.int .i64 x) (.int .i64 y) (.int .i64 z) (.int .i64 u) w) : (loadVar 25 ⟨p, 0, none⟩).run Tryd.prog w = .ok (.agg #[.int .i64 x, .int .i64 y, .int .i64 z, .int .i64 u]) w := by
  obtain ⟨⟨h1, h2, h3, h4⟩, _, _⟩ := hb
  go_simp
theorem res_box {fn : Func} {p : Tmp} (h : fn.results = #[.cell p 25]) {tmps : Array Value} {w : World} {b : Nat} {x y z u : Int} (hp : tmps.getD p undef = .pointer (some ⟨b, 0, none⟩)) (hb : Box b (.int .i64 x) (.int .i64 y) (.int .i64 z) (.int .i64 u) w) :
    (results fn tmps).run Tryd.prog w = .ok (.agg #[.int .i64 x, .int .i64 y, .int .i64 z, .int .i64 u]) w := by
  simp only [results, h]
  rw [Array.getD_eq_getD_getElem?] at hp
  simp [hp, asAddr, load_box hb]
theorem res_box2 {fn : Func} {p t : Tmp} (h : fn.results = #[.cell p 25, .tmp t]) {tmps : Array Value} {w : World} {b : Nat} {x y z u : Int} (hp : tmps.getD p undef = .pointer (some ⟨b, 0, none⟩)) (hb : Box b (.int .i64 x) (.int .i64 y) (.int .i64 z) (.int .i64 u) w) :
    (results fn tmps).run Tryd.prog w = .ok (.tuple #[.agg #[.int .i64 x, .int .i64 y, .int .i64 z, .int .i64 u], tmps.getD t undef]) w := by
  rw [results_cell_tmp h, hp]
  simp [Result.andThen, asAddr, load_box hb]

theorem Box.next {p : Nat} {x y z u : Value} {w w' : World} (h : Box p x y z u w) (hb : Below w.heap.size w w') : Box p x y z u w' := h.kept hb h.2.2 (Nat.le_refl _)
/-- A block that holds something to do. -/
def BoxO (p : Nat) (o : OpT) (w : World) : Prop := Box p (.int .i64 o.k) (.int .i64 o.n) (.int .i64 o.m) (.int .i64 o.l) w
end Go.Proofs.YtmcikjihkgplaaaDoor
