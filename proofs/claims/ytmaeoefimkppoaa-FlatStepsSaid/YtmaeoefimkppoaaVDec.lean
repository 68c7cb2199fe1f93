/- What Decode of package wide returns of any bytes: the object, or the error. -/
import Derived.Test.YtmaeoefimkppoaaVWds
import Derived.BigRegion
namespace Go.Proofs.Ytmaeoefimkppoaa.Wd
open Go.ChangeShapes Go.WideShapes Go.ChangeAt Go.RowKit
set_option maxRecDepth 1000000

/-- A struct of four cells in a block of its own. -/
def Box (p : Nat) (x y z u : Value) (w : World) : Prop := Bx p x y z u w ∧ (∀ j, w.frozen? ⟨p, j, none⟩ = false) ∧ p < w.heap.size
theorem Box.kept {p : Nat} {x y z u : Value} {w w' : World} {B : Nat} (h : Box p x y z u w) (hb : Below B w w') (hp : p < B) (hB : B ≤ w.heap.size) : Box p x y z u w' :=
  ⟨h.1.kept hb hp, fun j => (World.frozen?_of_block (w := w) (a := ⟨p, j, none⟩) (hb.block p hp)).trans (h.2.1 j), Nat.lt_of_lt_of_le hp (Nat.le_trans hB hb.size)⟩
theorem box_new (w : World) (x y z u : Value) : Box w.heap.size x y z u (w.alloc (.cells #[x, y, z, u] 33)) := by
  refine ⟨⟨?_, ?_, ?_, ?_⟩, fun j => ?_, by simp⟩
  · rw [World.cell?_alloc_at _ _ _ _ rfl]; rfl
  · rw [World.cell?_alloc_at _ _ _ _ rfl]; rfl
  · rw [World.cell?_alloc_at _ _ _ _ rfl]; rfl
  · rw [World.cell?_alloc_at _ _ _ _ rfl]; rfl
  · unfold World.frozen?
    rw [heap_alloc_new]
    simp
theorem Box.put {w : World} {p : Nat} {x y z u : Value} (h : Box p x y z u w) (x' y' z' u' : Value) :
    Box p x' y' z' u' ((((w.setCell ⟨p, 0, none⟩ x').setCell ⟨p, 1, none⟩ y').setCell ⟨p, 2, none⟩ z').setCell ⟨p, 3, none⟩ u') := by
  obtain ⟨⟨h1, h2, h3, h4⟩, h5, h6⟩ := h
  refine ⟨⟨?_, ?_, ?_, ?_⟩, fun j => ?_, by simpa [World.setCell] using h6⟩
  · rw [World.cell?_setCell_other _ _ _ _ (by simp), World.cell?_setCell_other _ _ _ _ (by simp), World.cell?_setCell_other _ _ _ _ (by simp), World.cell?_setCell_same _ _ _ h1]
  · rw [World.cell?_setCell_other _ _ _ _ (by simp), World.cell?_setCell_other _ _ _ _ (by simp), World.cell?_setCell_same _ _ _ ((World.cell?_setCell_other _ _ _ _ (by simp)).trans h2)]
  · rw [World.cell?_setCell_other _ _ _ _ (by simp), World.cell?_setCell_same _ _ _ ((World.cell?_setCell_other _ _ _ _ (by simp)).trans ((World.cell?_setCell_other _ _ _ _ (by simp)).trans h3))]
  · rw [World.cell?_setCell_same _ _ _ ((World.cell?_setCell_other _ _ _ _ (by simp)).trans ((World.cell?_setCell_other _ _ _ _ (by simp)).trans ((World.cell?_setCell_other _ _ _ _ (by simp)).trans h4)))]
  · rw [World.frozen?_setCell, World.frozen?_setCell, World.frozen?_setCell, World.frozen?_setCell]; exact h5 j
theorem Box.put2 {w : World} {p : Nat} {x y z u : Value} (h : Box p x y z u w) (z' : Value) : Box p x y z' u (w.setCell ⟨p, 2, none⟩ z') := by
  obtain ⟨⟨h1, h2, h3, h4⟩, h5, h6⟩ := h
  refine ⟨⟨?_, ?_, ?_, ?_⟩, fun j => ?_, by simpa [World.setCell] using h6⟩
  · rw [World.cell?_setCell_other _ _ _ _ (by simp)]; exact h1
  · rw [World.cell?_setCell_other _ _ _ _ (by simp)]; exact h2
  · rw [World.cell?_setCell_same _ _ _ h3]
  · rw [World.cell?_setCell_other _ _ _ _ (by simp)]; exact h4
  · rw [World.frozen?_setCell]; exact h5 j
theorem Box.put3 {w : World} {p : Nat} {x y z u : Value} (h : Box p x y z u w) (u' : Value) : Box p x y z u' (w.setCell ⟨p, 3, none⟩ u') := by
  obtain ⟨⟨h1, h2, h3, h4⟩, h5, h6⟩ := h
  refine ⟨⟨?_, ?_, ?_, ?_⟩, fun j => ?_, by simpa [World.setCell] using h6⟩
  · rw [World.cell?_setCell_other _ _ _ _ (by simp)]; exact h1
  · rw [World.cell?_setCell_other _ _ _ _ (by simp)]; exact h2
  · rw [World.cell?_setCell_other _ _ _ _ (by simp)]; exact h3
  · rw [World.cell?_setCell_same _ _ _ h4]
  · rw [World.frozen?_setCell]; exact h5 j
theorem Box.other {w : World} {p g : Nat} {x y z u : Value} (h : Box p x y z u w) (hg : p ≠ g) (j : Nat) (v : Value) : Box p x y z u (w.setCell ⟨g, j, none⟩ v) := by
  obtain ⟨⟨h1, h2, h3, h4⟩, h5, h6⟩ := h
  refine ⟨⟨?_, ?_, ?_, ?_⟩, fun j => ?_, by simpa [World.setCell] using h6⟩
  · rw [World.cell?_setCell_other _ _ _ _ (by intro e; injection e; omega)]; exact h1
  · rw [World.cell?_setCell_other _ _ _ _ (by intro e; injection e; omega)]; exact h2
  · rw [World.cell?_setCell_other _ _ _ _ (by intro e; injection e; omega)]; exact h3
  · rw [World.cell?_setCell_other _ _ _ _ (by intro e; injection e; omega)]; exact h4
  · rw [World.frozen?_setCell]; exact h5 j
theorem load_box {w : World} {p : Nat} {x y : Int} {z u : Value} (hb : Box p (.int .i64 x) (.int .i64 y) z u w) : (loadVar 33 ⟨p, 0, none⟩).run Try.prog w = .ok (.agg #[.int .i64 x, .int .i64 y, z, u]) w := by
  obtain ⟨⟨h1, h2, h3, h4⟩, _, _⟩ := hb
  go_simp
theorem res_box {fn : Func} {p : Tmp} (h : fn.results = #[.cell p 33]) {tmps : Array Value} {w : World} {b : Nat} {x y : Int} {z u : Value} (hp : tmps.getD p undef = .pointer (some ⟨b, 0, none⟩)) (hb : Box b (.int .i64 x) (.int .i64 y) z u w) :
    (results fn tmps).run Try.prog w = .ok (.agg #[.int .i64 x, .int .i64 y, z, u]) w := by
  simp only [results, h]
  rw [Array.getD_eq_getD_getElem?] at hp
  simp [hp, asAddr, load_box hb]
theorem res_box2 {fn : Func} {p t : Tmp} (h : fn.results = #[.cell p 33, .tmp t]) {tmps : Array Value} {w : World} {b : Nat} {x y : Int} {z u : Value} (hp : tmps.getD p undef = .pointer (some ⟨b, 0, none⟩)) (hb : Box b (.int .i64 x) (.int .i64 y) z u w) :
    (results fn tmps).run Try.prog w = .ok (.tuple #[.agg #[.int .i64 x, .int .i64 y, z, u], tmps.getD t undef]) w := by
  rw [results_cell_tmp h, hp]
  simp [Result.andThen, asAddr, load_box hb]

def DecYes (o : Ob) (w : World) (e : Ending) (w' : World) : Prop := ∃ v, e = .returned (.tuple #[v, .int .i64 0]) ∧ ObjAt w' v o ∧ Below w.heap.size w w'
def DecNo (w : World) (e : Ending) (w' : World) : Prop := e = .returned (.tuple #[.agg #[.int .i64 0, .int .i64 0, .slice none 0 0, .slice none 0 0], .int .i64 5]) ∧ Below w.heap.size w w'

def DecPost (xs : List Int) (w : World) (e : Ending) (w' : World) : Prop := (decB xs = true → DecYes (rdO xs) w e w') ∧ (decB xs = false → DecNo w e w')

theorem bts_take {w : World} {b off c n : Nat} {xs : List Int} (h : Bts w (.slice (some ⟨b, off, none⟩) n c) xs) (k : Nat) (hk : k ≤ xs.length) : Bts w (.slice (some ⟨b, off, none⟩) k c) (xs.take k) := by
  obtain ⟨a, c', he, h⟩ := h
  injection he with e1 e2 e3
  subst e1 e3
  have hl : (xs.take k).length = k := by rw [List.length_take]; omega
  refine ⟨_, _, by rw [hl], ?_⟩
  rcases h with rfl | ⟨b', off', ha, h⟩
  · left; simp
  · refine .inr ⟨b', off', ha, fun i hi => ?_⟩
    rw [hl] at hi
    have e : (xs.take k).getD i 0 = xs.getD i 0 := by simp only [List.getD, List.getElem?_take]; rw [if_pos hi]
    rw [e]; exact h i (by omega)
theorem bts_drop {w : World} {b off c n : Nat} {xs : List Int} (h : Bts w (.slice (some ⟨b, off, none⟩) n c) xs) (k : Nat) (hk : k ≤ xs.length) : Bts w (.slice (some ⟨b, off + k, none⟩) (xs.length - k) (c - k)) (xs.drop k) := by
  obtain ⟨a, c', he, h⟩ := h
  injection he with e1 e2 e3
  subst e1 e3
  refine ⟨_, _, by rw [List.length_drop], ?_⟩
  rcases h with rfl | ⟨b', off', ha, h⟩
  · left; simp
  · injection ha with ha
    injection ha with e4 e5
    subst e4 e5
    refine .inr ⟨b, off + k, rfl, fun i hi => ?_⟩
    rw [List.length_drop] at hi
    have e : (xs.drop k).getD i 0 = xs.getD (k + i) 0 := by simp [List.getD, List.getElem?_drop]
    rw [e, Nat.add_assoc]; exact h (k + i) (by omega)

/-- The slice value v, if it has cells, has them in a block behind q. -/
def Hi (q : Nat) (v : Value) : Prop := ∀ b off n c, v = .slice (some ⟨b, off, none⟩) n c → q < b
def Abv (q : Nat) (w w' : World) : Prop := ∀ k, q < k → k < w.heap.size → w'.heap[k]? = w.heap[k]?
theorem Ints.abv {q : Nat} {w w' : World} {v : Value} {ls : List Int} (h : Ints w v ls) (hh : Hi q v) (ha : Abv q w w') : Ints w' v ls := by
  unfold Hi at hh
  unfold Abv at ha
  obtain ⟨a, c, rfl, h⟩ := h
  refine ⟨a, c, rfl, h.imp id fun ⟨b, off, e, h'⟩ => ⟨b, off, e, fun i hi => ?_⟩⟩
  subst e
  have hl : b < w.heap.size := World.block_lt_of_cell? _ _ (h' i hi)
  exact (World.cell?_of_block (w := w) (ha b (hh _ _ _ _ rfl) hl)).trans (h' i hi)
theorem Bts.abv {q : Nat} {w w' : World} {v : Value} {ls : List Int} (h : Bts w v ls) (hh : Hi q v) (ha : Abv q w w') : Bts w' v ls := by
  unfold Hi at hh
  unfold Abv at ha
  obtain ⟨a, c, rfl, h⟩ := h
  refine ⟨a, c, rfl, h.imp id fun ⟨b, off, e, h'⟩ => ⟨b, off, e, fun i hi => ?_⟩⟩
  subst e
  have hl : b < w.heap.size := World.block_lt_of_cell? _ _ (h' i hi)
  exact (World.cell?_of_block (w := w) (ha b (hh _ _ _ _ rfl) hl)).trans (h' i hi)
theorem Hi.nil (q n c : Nat) : Hi q (.slice none n c) := fun _ _ _ _ h => by cases h
theorem Hi.own {w : World} {base q n : Nat} {e : TypeId} {v : Value} {xs : List Value} (h : w.ownsRow base e 1 v n xs) (hq : q < base) : Hi q v := by
  intro b off n' c he
  rcases h.2 with ⟨rfl, _⟩ | ⟨g, cap, cur, rfl, hb, _⟩
  · cases he
  · injection he with e1
    injection e1 with e1
    injection e1 with e1
    omega
theorem Abv.set (q : Nat) (w : World) (p j : Nat) (u : Value) (hp : p ≤ q) : Abv q w (w.setCell ⟨p, j, none⟩ u) := fun k hk _ => Below.heap_setCell _ _ _ _ (by show k ≠ p; omega)
theorem Abv.trans {q : Nat} {a b c : World} (h : Abv q a b) (g : Abv q b c) (hs : a.heap.size ≤ b.heap.size) : Abv q a c := fun k h1 h2 => (g k h1 (by omega)).trans (h k h1 h2)
theorem Abv.put {q : Nat} {w : World} {p : Nat} {x y z u : Value} (hp : p ≤ q) : Abv q w ((((w.setCell ⟨p, 0, none⟩ x).setCell ⟨p, 1, none⟩ y).setCell ⟨p, 2, none⟩ z).setCell ⟨p, 3, none⟩ u) := fun k hk _ => by
  have hne : k ≠ p := by omega
  rw [Below.heap_setCell _ _ _ _ (show k ≠ p from hne), Below.heap_setCell _ _ _ _ (show k ≠ p from hne), Below.heap_setCell _ _ _ _ (show k ≠ p from hne), Below.heap_setCell _ _ _ _ (show k ≠ p from hne)]
/-- The object o, with rows behind q. -/
def ObjHi (q : Nat) (w : World) (wv bv : Value) (o : Ob) : Prop := RowI w wv o.w ∧ RowB w bv o.b ∧ In64 o.c ∧ In64 o.k ∧ Hi q wv ∧ Hi q bv
theorem ObjHi.abv {q : Nat} {w w' : World} {wv bv : Value} {o : Ob} (h : ObjHi q w wv bv o) (ha : Abv q w w') : ObjHi q w' wv bv o :=
  ⟨⟨h.1.1.abv h.2.2.2.2.1 ha, h.1.2⟩, ⟨h.2.1.1.abv h.2.2.2.2.2 ha, h.2.1.2⟩, h.2.2⟩
theorem ObjHi.kept {q : Nat} {w w' : World} {wv bv : Value} {o : Ob} (h : ObjHi q w wv bv o) (hb : Below w.heap.size w w') : ObjHi q w' wv bv o :=
  ⟨h.1.kept hb, h.2.1.kept hb, h.2.2⟩
theorem ObjHi.obj {q : Nat} {w : World} {wv bv : Value} {o : Ob} (h : ObjHi q w wv bv o) : ObjAt w (.agg #[.int .i64 o.c, .int .i64 o.k, wv, bv]) o := ⟨wv, bv, rfl, h.1, h.2.1, h.2.2.1, h.2.2.2.1⟩
theorem rowB_nil (w : World) : RowB w (.slice none 0 0) [] := ⟨⟨_, _, rfl, .inl rfl⟩, fun _ h => by simp at h, _, _, rfl, Nat.le_refl _⟩
theorem rowI_nil (w : World) : RowI w (.slice none 0 0) [] := ⟨⟨_, _, rfl, .inl rfl⟩, fun _ h => by simp at h, _, _, rfl, Nat.le_refl _⟩
theorem put_below {B p : Nat} {a w : World} {x y z u : Value} (h : Below B a w) (hp : B ≤ p) : Below B a ((((w.setCell ⟨p, 0, none⟩ x).setCell ⟨p, 1, none⟩ y).setCell ⟨p, 2, none⟩ z).setCell ⟨p, 3, none⟩ u) :=
  (((h.setCell (p := ⟨p, 0, none⟩) hp x).setCell (p := ⟨p, 1, none⟩) hp y).setCell (p := ⟨p, 2, none⟩) hp z).setCell (p := ⟨p, 3, none⟩) hp u

/-- What 'words' gives of the first twelve bytes: three words, in new memory. -/
def HeadPost (x y z : Int) (w : World) (e : Ending) (w' : World) : Prop :=
  ∃ g c, e = .returned (.slice (some ⟨g, 0, none⟩) 3 c) ∧ Below w.heap.size w w' ∧ w.heap.size ≤ g ∧ w'.cell? ⟨g, 0, none⟩ = some (.int .i64 x) ∧ w'.cell? ⟨g, 1, none⟩ = some (.int .i64 y) ∧ w'.cell? ⟨g, 2, none⟩ = some (.int .i64 z)
theorem head_of {xs : List Int} {x y z : Int} {w w' : World} {e : Ending} (hw : ws xs = [x, y, z]) (h : WdsPost xs w e w') : HeadPost x y z w e w' := by
  obtain ⟨c, rfl, ⟨⟨a, c', he, h⟩, _⟩, hb⟩ := h
  rw [hw] at he h ⊢
  injection he with e1 e2 e3
  subst e1
  rcases h with h | ⟨g, off, ha, h⟩
  · cases h
  injection ha with ha
  injection ha with e4 e5
  subst e4 e5
  exact ⟨_, c, rfl, hb, Nat.le_refl _, h 0 (by simp), h 1 (by simp), h 2 (by simp)⟩

end Go.Proofs.Ytmaeoefimkppoaa.Wd
