/- What Decode of package wide returns of any bytes: the object, or the error. -/
import Derived.Test.YtbkojjbigilclaaWds
import Derived.BigRegion
namespace Go.Proofs.Ytbkojjbigilclaa
open Go.ChangeShapes Go.WideShapes Go.ChangeAt Go.RowKit
set_option maxRecDepth 1000000

/-- A struct of four cells in a block of its own. -/
def Box (p : Nat) (x y z u : Value) (w : World) : Prop := Bx p x y z u w ∧ (∀ j, w.frozen? ⟨p, j, none⟩ = false) ∧ p < w.heap.size
theorem Box.kept {p : Nat} {x y z u : Value} {w w' : World} {B : Nat} (h : Box p x y z u w) (hb : Below B w w') (hp : p < B) (hB : B ≤ w.heap.size) : Box p x y z u w' :=
  ⟨h.1.kept hb hp, fun j => (World.frozen?_of_block (w := w) (a := ⟨p, j, none⟩) (hb.block p hp)).trans (h.2.1 j), Nat.lt_of_lt_of_le hp (Nat.le_trans hB hb.size)⟩
theorem box_new (w : World) (x y z u : Value) : Box w.heap.size x y z u (w.alloc (.cells #[x, y, z, u] 25)) := by
  refine ⟨⟨?_, ?_, ?_, ?_⟩, fun j => ?_, by simp⟩
  · rw [World.cell?_alloc_at _ _ _ _ rfl]; rfl
  · rw [World.cell?_alloc_at _ _ _ _ rfl]; rfl
  · rw [World.cell?_alloc_at _ _ _ _ rfl]; rfl
  · rw [World.cell?_alloc_at _ _ _ _ rfl]; rfl
  · unfold World.frozen?
    rw [heap_alloc_new]
    simp
theorem Box.put {w : World} {p : Nat} {x y z u : Value} (h : Box p x y z u w) (x' y' z' u' : Value) :
    Box p x' y' z' u' ((((w.setCell ⟨p, 0, none⟩ x').setCell ⟨p, 1, none⟩ y').setCell ⟨p, 2, none⟩ z').setCell ⟨p, 3, none⟩ u') := by
  obtain ⟨⟨h1, h2, h3, h4⟩, h5, h6⟩ := h
  refine ⟨⟨?_, ?_, ?_, ?_⟩, fun j => ?_, by simpa [World.setCell] using h6⟩
  · rw [World.cell?_setCell_other _ _ _ _ (by simp), World.cell?_setCell_other _ _ _ _ (by simp), World.cell?_setCell_other _ _ _ _ (by simp), World.cell?_setCell_same _ _ _ h1]
  · rw [World.cell?_setCell_other _ _ _ _ (by simp), World.cell?_setCell_other _ _ _ _ (by simp), World.cell?_setCell_same _ _ _ ((World.cell?_setCell_other _ _ _ _ (by simp)).trans h2)]
  · rw [World.cell?_setCell_other _ _ _ _ (by simp), World.cell?_setCell_same _ _ _ ((World.cell?_setCell_other _ _ _ _ (by simp)).trans ((World.cell?_setCell_other _ _ _ _ (by simp)).trans h3))]
  · rw [World.cell?_setCell_same _ _ _ ((World.cell?_setCell_other _ _ _ _ (by simp)).trans ((World.cell?_setCell_other _ _ _ _ (by simp)).trans ((World.cell?_setCell_other _ _ _ _ (by simp)).trans h4)))]
  · rw [World.frozen?_setCell, World.frozen?_setCell, World.frozen?_setCell, World.frozen?_setCell]; exact h5 j
theorem Box.put2 {w : World} {p : Nat} {x y z u : Value} (h : Box p x y z u w) (z' : Value) : Box p x y z' u (w.setCell ⟨p, 2, none⟩ z') := by
  obtain ⟨⟨h1, h2, h3, h4⟩, h5, h6⟩ := h
  refine ⟨⟨?_, ?_, ?_, ?_⟩, fun j => ?_, by simpa [World.setCell] using h6⟩
  · rw [World.cell?_setCell_other _ _ _ _ (by simp)]; exact h1
  · rw [World.cell?_setCell_other _ _ _ _ (by simp)]; exact h2
  · rw [World.cell?_setCell_same _ _ _ h3]
  · rw [World.cell?_setCell_other _ _ _ _ (by simp)]; exact h4
  · rw [World.frozen?_setCell]; exact h5 j
theorem Box.put3 {w : World} {p : Nat} {x y z u : Value} (h : Box p x y z u w) (u' : Value) : Box p x y z u' (w.setCell ⟨p, 3, none⟩ u') := by
  obtain ⟨⟨h1, h2, h3, h4⟩, h5, h6⟩ := h
  refine ⟨⟨?_, ?_, ?_, ?_⟩, fun j => ?_, by simpa [World.setCell] using h6⟩
  · rw [World.cell?_setCell_other _ _ _ _ (by simp)]; exact h1
  · rw [World.cell?_setCell_other _ _ _ _ (by simp)]; exact h2
  · rw [World.cell?_setCell_other _ _ _ _ (by simp)]; exact h3
  · rw [World.cell?_setCell_same _ _ _ h4]
  · rw [World.frozen?_setCell]; exact h5 j
theorem Box.other {w : World} {p g : Nat} {x y z u : Value} (h : Box p x y z u w) (hg : p ≠ g) (j : Nat) (v : Value) : Box p x y z u (w.setCell ⟨g, j, none⟩ v) := by
  obtain ⟨⟨h1, h2, h3, h4⟩, h5, h6⟩ := h
  refine ⟨⟨?_, ?_, ?_, ?_⟩, fun j => ?_, by simpa [World.setCell] using h6⟩
  · rw [World.cell?_setCell_other _ _ _ _ (by intro e; injection e; omega)]; exact h1
  · rw [World.cell?_setCell_other _ _ _ _ (by intro e; injection e; omega)]; exact h2
  · rw [World.cell?_setCell_other _ _ _ _ (by intro e; injection e; omega)]; exact h3
  · rw [World.cell?_setCell_other _ _ _ _ (by intro e; injection e; omega)]; exact h4
  · rw [World.frozen?_setCell]; exact h5 j
theorem load_box {w : World} {p : Nat} {x y : Int} {z u : Value} (hb : Box p (.int .i64 x) (.int .i64 y) z u w) : (loadVar 25 ⟨p, 0, none⟩).run Try.prog w = .ok (.agg #[.int .i64 x, .int .i64 y, z, u]) w := by
  obtain ⟨⟨h1, h2, h3, h4⟩, _, _⟩ := hb
  go_simp
theorem res_box {fn : Func} {p : Tmp} (h : fn.results = #[.cell p 25]) {tmps : Array Value} {w : World} {b : Nat} {x y : Int} {z u : Value} (hp : tmps.getD p undef = .pointer (some ⟨b, 0, none⟩)) (hb : Box b (.int .i64 x) (.int .i64 y) z u w) :
    (results fn tmps).run Try.prog w = .ok (.agg #[.int .i64 x, .int .i64 y, z, u]) w := by
  simp only [results, h]
  rw [Array.getD_eq_getD_getElem?] at hp
  simp [hp, asAddr, load_box hb]
theorem res_box2 {fn : Func} {p t : Tmp} (h : fn.results = #[.cell p 25, .tmp t]) {tmps : Array Value} {w : World} {b : Nat} {x y : Int} {z u : Value} (hp : tmps.getD p undef = .pointer (some ⟨b, 0, none⟩)) (hb : Box b (.int .i64 x) (.int .i64 y) z u w) :
    (results fn tmps).run Try.prog w = .ok (.tuple #[.agg #[.int .i64 x, .int .i64 y, z, u], tmps.getD t undef]) w := by
  rw [results_cell_tmp h, hp]
  simp [Result.andThen, asAddr, load_box hb]

def DecYes (o : Ob) (w : World) (e : Ending) (w' : World) : Prop := ∃ v, e = .returned (.tuple #[v, .int .i64 0]) ∧ ObjAt w' v o ∧ Below w.heap.size w w'
def DecNo (w : World) (e : Ending) (w' : World) : Prop := e = .returned (.tuple #[.agg #[.int .i64 0, .int .i64 0, .slice none 0 0, .slice none 0 0], .int .i64 5]) ∧ Below w.heap.size w w'

def DecPost (xs : List Int) (w : World) (e : Ending) (w' : World) : Prop := (decB xs = true → DecYes (rdO xs) w e w') ∧ (decB xs = false → DecNo w e w')

set_option maxHeartbeats 1000000 in
theorem decode_short (v : Value) (xs : List Int) (w : World) (h : RowB w v xs) (hl : xs.length < 12) :
    Calls Try.prog 15 #[v] w (DecNo w) := by
  obtain ⟨_, _, a, c, rfl, hc⟩ := h
  have hl' : (xs.length : Int) < 12 := by omega
  go_enter Try.func15, Try.ntmps15
  go_wp2
  exact bodyPost_ret (res_box2 rfl rfl (box_new w _ _ _ _)) rfl ⟨rfl, (Below.refl _ _).alloc (Nat.le_refl _) _⟩

theorem bts_take {w : World} {b off c n : Nat} {xs : List Int} (h : Bts w (.slice (some ⟨b, off, none⟩) n c) xs) (k : Nat) (hk : k ≤ xs.length) : Bts w (.slice (some ⟨b, off, none⟩) k c) (xs.take k) := by
  obtain ⟨a, c', he, h⟩ := h
  injection he with e1 e2 e3
  subst e1 e3
  have hl : (xs.take k).length = k := by rw [List.length_take]; omega
  refine ⟨_, _, by rw [hl], ?_⟩
  rcases h with rfl | ⟨b', off', ha, h⟩
  · left; simp
  · refine .inr ⟨b', off', ha, fun i hi => ?_⟩
    rw [hl] at hi
    have e : (xs.take k).getD i 0 = xs.getD i 0 := by simp only [List.getD, List.getElem?_take]; rw [if_pos hi]
    rw [e]; exact h i (by omega)
theorem bts_drop {w : World} {b off c n : Nat} {xs : List Int} (h : Bts w (.slice (some ⟨b, off, none⟩) n c) xs) (k : Nat) (hk : k ≤ xs.length) : Bts w (.slice (some ⟨b, off + k, none⟩) (xs.length - k) (c - k)) (xs.drop k) := by
  obtain ⟨a, c', he, h⟩ := h
  injection he with e1 e2 e3
  subst e1 e3
  refine ⟨_, _, by rw [List.length_drop], ?_⟩
  rcases h with rfl | ⟨b', off', ha, h⟩
  · left; simp
  · injection ha with ha
    injection ha with e4 e5
    subst e4 e5
    refine .inr ⟨b, off + k, rfl, fun i hi => ?_⟩
    rw [List.length_drop] at hi
    have e : (xs.drop k).getD i 0 = xs.getD (k + i) 0 := by simp [List.getD, List.getElem?_drop]
    rw [e, Nat.add_assoc]; exact h (k + i) (by omega)

/-- The slice value v, if it has cells, has them in a block behind q. -/
def Hi (q : Nat) (v : Value) : Prop := ∀ b off n c, v = .slice (some ⟨b, off, none⟩) n c → q < b
def Abv (q : Nat) (w w' : World) : Prop := ∀ k, q < k → k < w.heap.size → w'.heap[k]? = w.heap[k]?
theorem Ints.abv {q : Nat} {w w' : World} {v : Value} {ls : List Int} (h : Ints w v ls) (hh : Hi q v) (ha : Abv q w w') : Ints w' v ls := by
  unfold Hi at hh
  unfold Abv at ha
  obtain ⟨a, c, rfl, h⟩ := h
  refine ⟨a, c, rfl, h.imp id fun ⟨b, off, e, h'⟩ => ⟨b, off, e, fun i hi => ?_⟩⟩
  subst e
  have hl : b < w.heap.size := World.block_lt_of_cell? _ _ (h' i hi)
  exact (World.cell?_of_block (w := w) (ha b (hh _ _ _ _ rfl) hl)).trans (h' i hi)
theorem Bts.abv {q : Nat} {w w' : World} {v : Value} {ls : List Int} (h : Bts w v ls) (hh : Hi q v) (ha : Abv q w w') : Bts w' v ls := by
  unfold Hi at hh
  unfold Abv at ha
  obtain ⟨a, c, rfl, h⟩ := h
  refine ⟨a, c, rfl, h.imp id fun ⟨b, off, e, h'⟩ => ⟨b, off, e, fun i hi => ?_⟩⟩
  subst e
  have hl : b < w.heap.size := World.block_lt_of_cell? _ _ (h' i hi)
  exact (World.cell?_of_block (w := w) (ha b (hh _ _ _ _ rfl) hl)).trans (h' i hi)
theorem Hi.nil (q n c : Nat) : Hi q (.slice none n c) := fun _ _ _ _ h => by cases h
theorem Hi.own {w : World} {base q n : Nat} {e : TypeId} {v : Value} {xs : List Value} (h : w.ownsRow base e 1 v n xs) (hq : q < base) : Hi q v := by
  intro b off n' c he
  rcases h.2 with ⟨rfl, _⟩ | ⟨g, cap, cur, rfl, hb, _⟩
  · cases he
  · injection he with e1
    injection e1 with e1
    injection e1 with e1
    omega
theorem Abv.set (q : Nat) (w : World) (p j : Nat) (u : Value) (hp : p ≤ q) : Abv q w (w.setCell ⟨p, j, none⟩ u) := fun k hk _ => Below.heap_setCell _ _ _ _ (by show k ≠ p; omega)
theorem Abv.trans {q : Nat} {a b c : World} (h : Abv q a b) (g : Abv q b c) (hs : a.heap.size ≤ b.heap.size) : Abv q a c := fun k h1 h2 => (g k h1 (by omega)).trans (h k h1 h2)
theorem Abv.put {q : Nat} {w : World} {p : Nat} {x y z u : Value} (hp : p ≤ q) : Abv q w ((((w.setCell ⟨p, 0, none⟩ x).setCell ⟨p, 1, none⟩ y).setCell ⟨p, 2, none⟩ z).setCell ⟨p, 3, none⟩ u) := fun k hk _ => by
  have hne : k ≠ p := by omega
  rw [Below.heap_setCell _ _ _ _ (show k ≠ p from hne), Below.heap_setCell _ _ _ _ (show k ≠ p from hne), Below.heap_setCell _ _ _ _ (show k ≠ p from hne), Below.heap_setCell _ _ _ _ (show k ≠ p from hne)]
/-- The object o, with rows behind q. -/
def ObjHi (q : Nat) (w : World) (wv bv : Value) (o : Ob) : Prop := RowI w wv o.w ∧ RowB w bv o.b ∧ In64 o.c ∧ In64 o.k ∧ Hi q wv ∧ Hi q bv
theorem ObjHi.abv {q : Nat} {w w' : World} {wv bv : Value} {o : Ob} (h : ObjHi q w wv bv o) (ha : Abv q w w') : ObjHi q w' wv bv o :=
  ⟨⟨h.1.1.abv h.2.2.2.2.1 ha, h.1.2⟩, ⟨h.2.1.1.abv h.2.2.2.2.2 ha, h.2.1.2⟩, h.2.2⟩
theorem ObjHi.kept {q : Nat} {w w' : World} {wv bv : Value} {o : Ob} (h : ObjHi q w wv bv o) (hb : Below w.heap.size w w') : ObjHi q w' wv bv o :=
  ⟨h.1.kept hb, h.2.1.kept hb, h.2.2⟩
theorem ObjHi.obj {q : Nat} {w : World} {wv bv : Value} {o : Ob} (h : ObjHi q w wv bv o) : ObjAt w (.agg #[.int .i64 o.c, .int .i64 o.k, wv, bv]) o := ⟨wv, bv, rfl, h.1, h.2.1, h.2.2.1, h.2.2.2.1⟩
theorem rowB_nil (w : World) : RowB w (.slice none 0 0) [] := ⟨⟨_, _, rfl, .inl rfl⟩, fun _ h => by simp at h, _, _, rfl, Nat.le_refl _⟩
theorem rowI_nil (w : World) : RowI w (.slice none 0 0) [] := ⟨⟨_, _, rfl, .inl rfl⟩, fun _ h => by simp at h, _, _, rfl, Nat.le_refl _⟩
theorem put_below {B p : Nat} {a w : World} {x y z u : Value} (h : Below B a w) (hp : B ≤ p) : Below B a ((((w.setCell ⟨p, 0, none⟩ x).setCell ⟨p, 1, none⟩ y).setCell ⟨p, 2, none⟩ z).setCell ⟨p, 3, none⟩ u) :=
  (((h.setCell (p := ⟨p, 0, none⟩) hp x).setCell (p := ⟨p, 1, none⟩) hp y).setCell (p := ⟨p, 2, none⟩) hp z).setCell (p := ⟨p, 3, none⟩) hp u

/-- What 'words' gives of the first twelve bytes: three words, in new memory. -/
def HeadPost (x y z : Int) (w : World) (e : Ending) (w' : World) : Prop :=
  ∃ g c, e = .returned (.slice (some ⟨g, 0, none⟩) 3 c) ∧ Below w.heap.size w w' ∧ w.heap.size ≤ g ∧ w'.cell? ⟨g, 0, none⟩ = some (.int .i64 x) ∧ w'.cell? ⟨g, 1, none⟩ = some (.int .i64 y) ∧ w'.cell? ⟨g, 2, none⟩ = some (.int .i64 z)
theorem head_of {xs : List Int} {x y z : Int} {w w' : World} {e : Ending} (hw : ws xs = [x, y, z]) (h : WdsPost xs w e w') : HeadPost x y z w e w' := by
  obtain ⟨c, rfl, ⟨⟨a, c', he, h⟩, _⟩, hb⟩ := h
  rw [hw] at he h ⊢
  injection he with e1 e2 e3
  subst e1
  rcases h with h | ⟨g, off, ha, h⟩
  · cases h
  injection ha with ha
  injection ha with e4 e5
  subst e4 e5
  exact ⟨_, c, rfl, hb, Nat.le_refl _, h 0 (by simp), h 1 (by simp), h 2 (by simp)⟩

set_option maxHeartbeats 2000000 in
theorem decode_long (v : Value) (xs : List Int) (w : World) (h : RowB w v xs) (hl : 12 ≤ xs.length) (hl2 : xs.length ≤ 10000) :
    Calls Try.prog 15 #[v] w (DecPost xs w) := by
  have HY := Lib.hid h.2.1
  have hv := h.1
  obtain ⟨_, _, a, c, rfl, hc⟩ := h
  obtain ⟨b, off, rfl⟩ : ∃ b off, a = some ⟨b, off, none⟩ := by
    obtain ⟨a', c', he, h⟩ := hv
    injection he with e1 e2 e3
    subst e1
    rcases h with rfl | ⟨b, off, ha, _⟩
    · simp at hl
    · exact ⟨b, off, ha⟩
  have HV := Lib.hid hv
  have hl' : ¬ (xs.length : Int) < 12 := by omega
  have h12 : (12 : Int) ≤ c := by omega
  have h12' : (12 : Int) ≤ xs.length := by omega
  have R1 : Hid (∀ w', Bts w' (.slice (some ⟨b, off, none⟩) xs.length c) xs → RowB w' (.slice (some ⟨b, off, none⟩) 12 c) (xs.take 12)) := fun w' hv =>
    ⟨bts_take hv 12 hl, HY.out.take 12, _, _, by rw [List.length_take, Nat.min_eq_left hl], by rw [List.length_take]; omega⟩
  obtain ⟨o2, ho2, R2⟩ : ∃ o2, (if c = 12 then some (⟨b, off, none⟩ : Addr) else some ⟨b, off + 12, none⟩) = some ⟨b, o2, none⟩ ∧ Hid (∀ w', Bts w' (.slice (some ⟨b, off, none⟩) xs.length c) xs → RowB w' (.slice (some ⟨b, o2, none⟩) (xs.length - 12) (c - 12)) (xs.drop 12)) := by
    by_cases h0 : c = 12
    · refine ⟨off, by rw [if_pos h0], fun w' hv => ⟨?_, HY.out.drop 12, _, _, by rw [List.length_drop], by rw [List.length_drop]; omega⟩⟩
      have e : xs.drop 12 = [] := List.drop_eq_nil_of_le (by omega)
      rw [e]
      exact ⟨_, _, by rw [show xs.length - 12 = 0 by omega]; rfl, .inl rfl⟩
    · exact ⟨off + 12, by rw [if_neg h0], fun w' hv => ⟨bts_drop hv 12 hl, HY.out.drop 12, _, _, by rw [List.length_drop], by rw [List.length_drop]; omega⟩⟩
  have hw3 : ws (xs.take 12) = [wd xs 0, wd xs 4, wd xs 8] := by
    unfold ws
    rw [List.length_take, show min 12 xs.length / 4 = 3 by omega]
    show [wd (xs.take 12) (4 * 0), wd (xs.take 12) (4 * 1), wd (xs.take 12) (4 * 2)] = _
    rw [wd_take _ _ _ (by omega), wd_take _ _ _ (by omega), wd_take _ _ _ (by omega)]
  have HW3 := Lib.hid hw3
  have HW1 : Hid (∀ w', Bts w' (.slice (some ⟨b, off, none⟩) xs.length c) xs → Calls Try.prog 33 #[.slice (some ⟨b, off, none⟩) 12 c] w' (WdsPost (xs.take 12) w')) := fun w' hv => words_any _ _ w' (R1.out w' hv) (by rw [List.length_take]; omega)
  have HW2 : Hid (∀ w', Hid (Bts w' (.slice (some ⟨b, off, none⟩) xs.length c) xs) → Calls Try.prog 33 #[.slice (some ⟨b, off, none⟩) 12 c] w' (HeadPost (wd xs 0) (wd xs 4) (wd xs 8) w')) := fun w' hv => (HW1.out w' hv.out).mono fun e w1 h => head_of HW3.out h
  have V0 : Hid (Bts (w.alloc (.cells #[.int .i64 0, .int .i64 0, .slice none 0 0, .slice none 0 0] 25)) (.slice (some ⟨b, off, none⟩) xs.length c) xs) := hv.kept ((Below.refl _ _).alloc (Nat.le_refl _) _)
  have X0 : Hid (Box w.heap.size (.int .i64 0) (.int .i64 0) (.slice none 0 0) (.slice none 0 0) (w.alloc (.cells #[.int .i64 0, .int .i64 0, .slice none 0 0, .slice none 0 0] 25))) := box_new w _ _ _ _
  have HK : Hid (∀ wa wb : World, Below wa.heap.size wa wb → Hid (Bts wa (.slice (some ⟨b, off, none⟩) xs.length c) xs) → Hid (Bts wb (.slice (some ⟨b, off, none⟩) xs.length c) xs)) := fun wa wb hb h => h.out.kept hb
  have hv1 : Hid (Bts (w.alloc (.cells #[.int .i64 0, .int .i64 0, .slice none 0 0, .slice none 0 0] 25)).drew (.slice (some ⟨b, off, none⟩) xs.length c) xs) := V0.out.kept (below_drewN _ _ 1)
  clear hv hw3
  go_enter Try.func15, Try.ntmps15
  go_wp2
  go_region_held3 (fun w' => Hid (Bts w' (.slice (some ⟨b, off, none⟩) xs.length c) xs)) (first | go_keep | (exact HK.out _ _ hb1 (by assumption))) (first | (go_at_call 33; refine (HW2.out _ (by assumption)).mono ?_; rintro e w1 ⟨g1, c1, rfl, hb1, hg1, d0, d1, d2⟩))
  have BA : Below w.heap.size w (w.alloc (.cells #[.int .i64 0, .int .i64 0, .slice none 0 0, .slice none 0 0] 25)).drew := ((Below.refl _ _).alloc (Nat.le_refl _) _).trans (below_drewN _ _ 1)
  have hb1' : Below (w.heap.size + 1) (w.alloc (.cells #[.int .i64 0, .int .i64 0, .slice none 0 0, .slice none 0 0] 25)).drew w1 := hb1.mono (by simp [World.drew])
  have HG1 : Hid (w.heap.size + 1 ≤ g1) := by
    have := hg1
    simp [World.drew] at this
    exact this
  have B1 : Hid (Below w.heap.size w w1) := BA.trans (hb1'.mono (by omega))
  have X1 : Hid (Box w.heap.size (.int .i64 0) (.int .i64 0) (.slice none 0 0) (.slice none 0 0) w1) := (X0.out.kept (B := w.heap.size + 1) (below_drewN _ _ 1) (by omega) (by simp)).kept hb1' (by omega) (by simp)
  have VB : Hid (RowB w1 (.slice (some ⟨b, o2, none⟩) (xs.length - 12) (c - 12)) (xs.drop 12)) := R2.out _ (HV.out.kept B1.out)
  have I0 := Lib.hid (wd_in xs 0 HY.out.bytes)
  have I4 := Lib.hid (wd_in xs 4 HY.out.bytes)
  have I8 := Lib.hid (wd_in xs 8 HY.out.bytes)
  have LD := Lib.hid (show (xs.drop 12).length = xs.length - 12 by rw [List.length_drop])
  have LB := Lib.hid (show xs.length - 12 ≤ 9988 by omega)
  have HD : Hid (decB xs = (fitsB (wd xs 4) (wd xs 8) (xs.length - 12) && okO (rdO xs))) := by
    show decB xs = _
    unfold decB
    rw [show decide (12 ≤ xs.length) = true by simpa using hl, Bool.true_and]
  have HR : Hid (rdO xs = if wd xs 4 = 1 then ⟨wd xs 0, 1, ws (xs.drop 12), []⟩ else ⟨wd xs 0, wd xs 4, [], xs.drop 12⟩) := Lib.hid rfl
  clear hb1 hb1' BA hg1 hv1 hl hl' hl2 h12 h12' hc ho2 X0 V0 HW1 HW2 HW3 R1 R2 HV HK
  generalize hx0 : wd xs 0 = x0 at *
  generalize hk4 : wd xs 4 = k at *
  generalize hn8 : wd xs 8 = n at *
  generalize hlen : xs.length - 12 = m at *
  generalize hbody : xs.drop 12 = ys at *
  generalize c - 12 = c2 at *
  clear hx0 hk4 hn8 hlen hbody
  go_wp2
  go_region_held3 (fun w' => w'.cell? ⟨g1, 0, none⟩ = some (.int .i64 x0) ∧ w'.cell? ⟨g1, 1, none⟩ = some (.int .i64 k)) (first | go_keep) (fail)
  have hB2 : Below w1.heap.size w1 (w1.alloc (.cells #[.int .i64 x0, .int .i64 k, .slice none 0 0, .slice none 0 0] 25)).drew := ((Below.refl _ _).alloc (Nat.le_refl _) _).trans (below_drewN _ _ 1)
  have hP1 := B1.out.size
  have hG1 := World.block_lt_of_cell? _ _ d2
  have hX1 := X1.out.2.2
  have e2 := (hB2.cell (p := ⟨g1, 2, none⟩) hG1).trans d2
  have B2 := Lib.hid (B1.out.trans (hB2.mono hP1))
  have X2 := Lib.hid (X1.out.kept hB2 hX1 (Nat.le_refl _))
  have Y2 : Hid (Box w1.heap.size (.int .i64 x0) (.int .i64 k) (.slice none 0 0) (.slice none 0 0) (w1.alloc (.cells #[.int .i64 x0, .int .i64 k, .slice none 0 0, .slice none 0 0] 25)).drew) := (box_new w1 _ _ _ _).kept (B := w1.heap.size + 1) (below_drewN _ _ 1) (by omega) (by simp)
  have V2 := Lib.hid (VB.out.kept hB2)
  have Q2 := Lib.hid (show w.heap.size < w1.heap.size from hX1)
  have S2 := Lib.hid (show w1.heap.size < (w1.alloc (.cells #[.int .i64 x0, .int .i64 k, .slice none 0 0, .slice none 0 0] 25)).drew.heap.size by simp [World.drew])
  clear hB2 hP1 hG1 hX1 d0 d1 d2 B1 X1 VB HG1
  generalize (w1.alloc (.cells #[.int .i64 x0, .int .i64 k, .slice none 0 0, .slice none 0 0] 25)).drew = w2 at *
  generalize w1.heap.size = p6 at *
  have HF : Hid (∀ w, Calls Try.prog 34 #[.int .i64 k, .int .i64 n, .int .i64 (m : Int)] w fun e w' => e = .returned (.bool (fitsB k n m)) ∧ w' = w) := fun w =>
    (fits_any k n m w ⟨by have := I4.out; omega, by have := I4.out; omega⟩ ⟨by have := I8.out; omega, by have := I8.out; omega⟩).mono fun _ _ ⟨h1, h2⟩ => ⟨h1, h2.symm⟩
  obtain ⟨y0, y1, y2, y3⟩ := Y2.out.1
  cases hf : fitsB k n m with
  | false =>
    rw [hf] at HF HD
    clear hf
    obtain ⟨⟨z0, z1, z2, z3⟩, zf, _⟩ := X2.out
    have zf0 := zf 0
    have zf1 := zf 1
    have zf2 := zf 2
    have zf3 := zf 3
    clear zf
    go_wp2
    go_quiet (first | (go_at_call 34; exact Calls.quiet_of_same (HF.out _)))
    go_wp2
    exact bodyPost_ret (res_box2 rfl rfl ((X2.out.kept (below_drewN _ _ nq) (Nat.lt_trans Q2.out S2.out) (Nat.le_refl _)).put _ _ _ _)) rfl
      ⟨fun h => by rw [HD.out] at h; simp at h, fun _ => ⟨rfl, put_below (B2.out.trans (below_drewN _ _ nq)) (Nat.le_refl _)⟩⟩
  | true =>
    rw [hf] at HF HD
    have hk12 : k = 1 ∨ k = 2 := by
      unfold fitsB at hf
      simp only [Bool.and_eq_true, Bool.or_eq_true, beq_iff_eq] at hf
      exact hf.2.imp (fun h => h.1) fun h => h.1
    clear hf
    rcases hk12 with rfl | rfl
    · go_wp2
      go_quiet (first | (go_at_call 34; exact Calls.quiet_of_same (HF.out _)))
      have X3 := Lib.hid (X2.out.kept (below_drewN _ w2 nq) (Nat.lt_trans Q2.out S2.out) (Nat.le_refl _))
      have Y3 := Lib.hid (Y2.out.kept (below_drewN _ w2 nq) S2.out (Nat.le_refl _))
      have V3 := Lib.hid (V2.out.kept (below_drewN _ w2 nq))
      have B3 := Lib.hid (B2.out.trans (below_drewN _ w2 nq))
      have S3 : Hid (p6 < (w2.drewN nq).heap.size) := S2.out
      clear y0 y1 y2 y3 e2
      obtain ⟨y0, y1, y2, y3⟩ := Y3.out.1
      generalize w2.drewN nq = w3 at *
      go_wp2_with fail
      refine (words_any _ ys _ V3.out (by have := LD.out; have := LB.out; omega)).mono ?_
      rintro e w4 ⟨c4, rfl, hr4, hb4⟩
      have s3 := S3.out
      have X4 := Lib.hid (X3.out.kept hb4 (Nat.lt_trans Q2.out s3) (Nat.le_refl _))
      have Y4 := Lib.hid (Y3.out.kept hb4 s3 (Nat.le_refl _))
      have B4 := Lib.hid (B3.out.trans (hb4.mono (by have := Q2.out; omega)))
      have O4 : Hid (ObjHi p6 w4 (.slice (some ⟨w3.heap.size, 0, none⟩) (ws ys).length c4) (.slice none 0 0) ⟨x0, 1, ws ys, []⟩) :=
        ⟨hr4, rowB_nil _, ⟨by have := I0.out; show _ ≤ x0; omega, by have := I0.out; show x0 ≤ _; omega⟩, ⟨by show _ ≤ (1 : Int); omega, by show (1 : Int) ≤ _; omega⟩, fun b off n c he => by injection he with e1; injection e1 with e1; injection e1 with e1; omega, Hi.nil _ _ _⟩
      have HR2 : Hid (rdO xs = ⟨x0, 1, ws ys, []⟩) := by
        have h := HR.out
        simp only [if_true] at h
        exact h
      clear hr4 hb4 y0 y1 y2 y3 s3 HR
      have LW := Lib.hid (ws_len ys)
      generalize ws ys = zs at *
      generalize w3.heap.size = g4 at *
      obtain ⟨⟨y0, y1, y2, y3⟩, yf, _⟩ := Y4.out
      have yf2 := yf 2
      clear yf
      go_wp2_with fail
      have Y5 := Lib.hid (Y4.out.put2 (.slice (some ⟨g4, 0, none⟩) zs.length c4))
      have X5 := Lib.hid (X4.out.other (Nat.ne_of_lt Q2.out) 2 (.slice (some ⟨g4, 0, none⟩) zs.length c4))
      have O5 := Lib.hid (O4.out.abv (Abv.set p6 w4 p6 2 (.slice (some ⟨g4, 0, none⟩) zs.length c4) (Nat.le_refl _)))
      have B5 := Lib.hid (B4.out.setCell (p := ⟨p6, 2, none⟩) (Nat.le_of_lt Q2.out) (.slice (some ⟨g4, 0, none⟩) zs.length c4))
      clear y0 y1 y2 y3 yf2
      generalize w4.setCell ⟨p6, 2, none⟩ (.slice (some ⟨g4, 0, none⟩) zs.length c4) = w5 at *
      refine (check_any _ ⟨x0, 1, zs, []⟩ _ O5.out.obj ⟨by show zs.length ≤ _; have := LW.out; have := LD.out; have := LB.out; omega, by simp⟩).mono ?_
      rintro e w6 ⟨rfl, hb6⟩
      have Y6 := Lib.hid (Y5.out.kept hb6 Y5.out.2.2 (Nat.le_refl _))
      have X6 := Lib.hid (X5.out.kept hb6 X5.out.2.2 (Nat.le_refl _))
      have O6 := Lib.hid (O5.out.kept hb6)
      have B6 := Lib.hid (B5.out.trans (hb6.mono B5.out.size))
      clear hb6
      obtain ⟨⟨y0, y1, y2, y3⟩, _, _⟩ := Y6.out
      obtain ⟨⟨z0, z1, z2, z3⟩, zf, _⟩ := X6.out
      have zf0 := zf 0
      have zf1 := zf 1
      have zf2 := zf 2
      have zf3 := zf 3
      clear zf
      cases hok : okO ⟨x0, 1, zs, []⟩ with
      | true =>
        have HD2 : Hid (decB xs = true) := by
          show decB xs = true
          rw [HD.out, HR2.out, hok]; rfl
        rw [chk_is hok]
        clear hok
        go_wp2
        exact bodyPost_ret (res_box2 rfl rfl (X6.out.put _ _ _ _)) rfl
          ⟨fun _ => ⟨_, rfl, by rw [HR2.out]; exact (O6.out.abv (Abv.put (Nat.le_of_lt Q2.out))).obj, put_below B6.out (Nat.le_refl _)⟩, fun h => by rw [HD2.out] at h; cases h⟩
      | false =>
        have HD2 : Hid (decB xs = false) := by
          show decB xs = false
          rw [HD.out, HR2.out, hok]; rfl
        rw [chk_not hok]
        clear hok
        go_wp2
        exact bodyPost_ret (res_box2 rfl rfl (X6.out.put _ _ _ _)) rfl
          ⟨fun h => (by rw [HD2.out] at h; cases h), fun _ => ⟨rfl, put_below B6.out (Nat.le_refl _)⟩⟩
    · go_wp2
      go_quiet (first | (go_at_call 34; exact Calls.quiet_of_same (HF.out _)))
      have X3 := Lib.hid (X2.out.kept (below_drewN _ w2 nq) (Nat.lt_trans Q2.out S2.out) (Nat.le_refl _))
      have Y3 := Lib.hid (Y2.out.kept (below_drewN _ w2 nq) S2.out (Nat.le_refl _))
      have V3 := Lib.hid (V2.out.kept (below_drewN _ w2 nq))
      have B3 := Lib.hid (B2.out.trans (below_drewN _ w2 nq))
      have S3 : Hid (p6 < (w2.drewN nq).heap.size) := S2.out
      clear y0 y1 y2 y3 e2
      obtain ⟨y0, y1, y2, y3⟩ := Y3.out.1
      generalize w2.drewN nq = w3 at *
      go_wp2_with fail
      refine (cloneB_any _ ys _ V3.out.1 (by have := LD.out; have := LB.out; omega)).mono ?_
      rintro e w4 ⟨v4, rfl, hr4, hb4⟩
      obtain ⟨a4, c4, rfl, _⟩ := own_room hr4
      have s3 := S3.out
      have X4 := Lib.hid (X3.out.kept hb4 (Nat.lt_trans Q2.out s3) (Nat.le_refl _))
      have Y4 := Lib.hid (Y3.out.kept hb4 s3 (Nat.le_refl _))
      have B4 := Lib.hid (B3.out.trans (hb4.mono (by have := Q2.out; omega)))
      have O4 : Hid (ObjHi p6 w4 (.slice none 0 0) (.slice a4 ys.length c4) ⟨x0, 2, [], ys⟩) :=
        ⟨rowI_nil _, RowB.own hr4 V3.out.2.1, ⟨by have := I0.out; show _ ≤ x0; omega, by have := I0.out; show x0 ≤ _; omega⟩, ⟨by show _ ≤ (2 : Int); omega, by show (2 : Int) ≤ _; omega⟩, Hi.nil _ _ _, Hi.own hr4 s3⟩
      have HR2 : Hid (rdO xs = ⟨x0, 2, [], ys⟩) := by
        have h := HR.out
        rw [if_neg (by decide)] at h
        exact h
      clear hr4 hb4 y0 y1 y2 y3 s3
      obtain ⟨⟨y0, y1, y2, y3⟩, yf, _⟩ := Y4.out
      have yf2 := yf 3
      clear yf
      go_wp2_with fail
      have Y5 := Lib.hid (Y4.out.put3 (.slice a4 ys.length c4))
      have X5 := Lib.hid (X4.out.other (Nat.ne_of_lt Q2.out) 3 (.slice a4 ys.length c4))
      have O5 := Lib.hid (O4.out.abv (Abv.set p6 w4 p6 3 (.slice a4 ys.length c4) (Nat.le_refl _)))
      have B5 := Lib.hid (B4.out.setCell (p := ⟨p6, 3, none⟩) (Nat.le_of_lt Q2.out) (.slice a4 ys.length c4))
      clear y0 y1 y2 y3 yf2
      generalize w4.setCell ⟨p6, 3, none⟩ (.slice a4 ys.length c4) = w5 at *
      refine (check_any _ ⟨x0, 2, [], ys⟩ _ O5.out.obj ⟨by simp, by show ys.length ≤ _; have := LD.out; have := LB.out; omega⟩).mono ?_
      rintro e w6 ⟨rfl, hb6⟩
      have Y6 := Lib.hid (Y5.out.kept hb6 Y5.out.2.2 (Nat.le_refl _))
      have X6 := Lib.hid (X5.out.kept hb6 X5.out.2.2 (Nat.le_refl _))
      have O6 := Lib.hid (O5.out.kept hb6)
      have B6 := Lib.hid (B5.out.trans (hb6.mono B5.out.size))
      clear hb6
      obtain ⟨⟨y0, y1, y2, y3⟩, _, _⟩ := Y6.out
      obtain ⟨⟨z0, z1, z2, z3⟩, zf, _⟩ := X6.out
      have zf0 := zf 0
      have zf1 := zf 1
      have zf2 := zf 2
      have zf3 := zf 3
      clear zf
      cases hok : okO ⟨x0, 2, [], ys⟩ with
      | true =>
        have HD2 : Hid (decB xs = true) := by
          show decB xs = true
          rw [HD.out, HR2.out, hok]; rfl
        rw [chk_is hok]
        clear hok
        go_wp2
        exact bodyPost_ret (res_box2 rfl rfl (X6.out.put _ _ _ _)) rfl
          ⟨fun _ => ⟨_, rfl, by rw [HR2.out]; exact (O6.out.abv (Abv.put (Nat.le_of_lt Q2.out))).obj, put_below B6.out (Nat.le_refl _)⟩, fun h => by rw [HD2.out] at h; cases h⟩
      | false =>
        have HD2 : Hid (decB xs = false) := by
          show decB xs = false
          rw [HD.out, HR2.out, hok]; rfl
        rw [chk_not hok]
        clear hok
        go_wp2
        exact bodyPost_ret (res_box2 rfl rfl (X6.out.put _ _ _ _)) rfl
          ⟨fun h => (by rw [HD2.out] at h; cases h), fun _ => ⟨rfl, put_below B6.out (Nat.le_refl _)⟩⟩
end Go.Proofs.Ytbkojjbigilclaa
