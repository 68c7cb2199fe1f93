/- What the function Drop of package second does. No condition but those that each statement names. -/
import Derived.Test.YtccpmaahnfgkeaaGreatDoorSId
namespace Go.Proofs.YtccpmaahnfgkeaaGreatDoor
set_option maxRecDepth 1000000
open Go.ChangeShapes Go.WideShapes Go.ChangeAt Go.RowKit
open Wd (Ob okO encO refsO ObjAt In64 I64)

theorem Tryz.info47 : (Tryz.prog.info? 47).map (fun i => (i.zero, i.size, i.bytes)) = some (some (.agg #[.int .i64 0, .int .i64 0, .int .i64 0]), 3, 24) := by kernel_rfl
def z3 : Array Value := #[.int .i64 0, .int .i64 0, .int .i64 0]
theorem mk_exts (w : World) (n : Nat) (hn : n ≤ 100000000) : (Instr.makeSlice 86 (.int .i64 (n : Int)) (.int .i64 (n : Int))).run Tryz.prog w = .ok (.slice (some ⟨w.heap.size, 0, none⟩) n n) (w.alloc (.cells (madeCells z3 (n * 3)) 47)) := by
  obtain ⟨i0, hi, hz0, hz1, hz2⟩ := info_parts Tryz.info47
  have h := run_make (P := Tryz.prog) w 86 47 i0 _ Tryz.underlying86 hi hz0 .i64 .i64 (n : Int) (n : Int) (by omega) (by omega) (by rw [hz2]; omega) (by omega)
  rw [hz1, show ((n : Int)).toNat = n by omega] at h
  exact h
theorem made_ext (w : World) (n j : Nat) (h : j < n) : (w.alloc (.cells (madeCells z3 n) 47)).cell? ⟨w.heap.size, j, none⟩ = some (.int .i64 0) := by
  rw [World.cell?_alloc_at _ _ _ _ rfl]
  show (madeCells z3 n)[j]? = _
  unfold madeCells
  rw [Array.getElem?_map, Array.getElem?_range, if_pos h]
  have : ∀ r, r < 3 → z3[r]! = .int .i64 0 := by
    intro r hr
    match r, hr with
    | 0, _ => rfl
    | 1, _ => rfl
    | 2, _ => rfl
  show some (z3[j % 3]!) = _
  rw [this _ (Nat.mod_lt _ (by omega))]

/-- The block g holds n extents, the j-th of them E j. -/
structure Holds3 (w : World) (g n : Nat) (E : Nat → Ext) : Prop where
  c0 : ∀ j, j < n → w.cell? ⟨g, j * 3, none⟩ = some (.int .i64 (E j).f)
  c1 : ∀ j, j < n → w.cell? ⟨g, j * 3 + 1, none⟩ = some (.int .i64 (E j).n)
  c2 : ∀ j, j < n → w.cell? ⟨g, j * 3 + 2, none⟩ = some (.int .i64 (E j).s)
  fz : ∀ j, w.frozen? ⟨g, j, none⟩ = false
  lt : g < w.heap.size
theorem Holds3.only {w w' : World} {g n : Nat} {E : Nat → Ext} {F : Nat → Prop} (h : Holds3 w g n E) (o : Only F w w') (hF : ¬ F g) : Holds3 w' g n E :=
  ⟨fun j hj => (o.cell (p := ⟨g, _, none⟩) h.lt hF).trans (h.c0 j hj), fun j hj => (o.cell (p := ⟨g, _, none⟩) h.lt hF).trans (h.c1 j hj), fun j hj => (o.cell (p := ⟨g, _, none⟩) h.lt hF).trans (h.c2 j hj), fun j => (o.frozen (p := ⟨g, j, none⟩) h.lt hF).trans (h.fz j), Nat.lt_of_lt_of_le h.lt o.size⟩
theorem Holds3.congr {w : World} {g n : Nat} {E E' : Nat → Ext} (h : Holds3 w g n E) (he : ∀ j, j < n → E j = E' j) : Holds3 w g n E' :=
  ⟨fun j hj => by rw [← he j hj]; exact h.c0 j hj, fun j hj => by rw [← he j hj]; exact h.c1 j hj, fun j hj => by rw [← he j hj]; exact h.c2 j hj, h.fz, h.lt⟩
theorem holds3_new (w : World) (n : Nat) : Holds3 (w.alloc (.cells (madeCells z3 (n * 3)) 47)) w.heap.size n (fun _ => Z3) :=
  ⟨fun j hj => made_ext w _ _ (by omega), fun j hj => made_ext w _ _ (by omega), fun j hj => made_ext w _ _ (by omega), fun j => frozen_top w _ _ j, by simp⟩
theorem Holds3.put {w : World} {g n : Nat} {E : Nat → Ext} (h : Holds3 w g n E) {k : Nat} (hk : k < n) (a b c : Int) :
    Holds3 (((w.setCell ⟨g, k * 3, none⟩ (.int .i64 a)).setCell ⟨g, k * 3 + 1, none⟩ (.int .i64 b)).setCell ⟨g, k * 3 + 2, none⟩ (.int .i64 c)) g n (fun j => if j = k then ⟨a, b, c⟩ else E j) := by
  have ne : ∀ {i j : Nat}, i ≠ j → (⟨g, i, none⟩ : Addr) ≠ ⟨g, j, none⟩ := fun h e => h (by injection e)
  refine ⟨fun j hj => ?_, fun j hj => ?_, fun j hj => ?_, fun j => by rw [World.frozen?_setCell, World.frozen?_setCell, World.frozen?_setCell]; exact h.fz j, by simpa [World.setCell] using h.lt⟩
  · by_cases e : j = k
    · subst e
      rw [World.cell?_setCell_other _ _ _ _ (ne (by omega)), World.cell?_setCell_other _ _ _ _ (ne (by omega)), World.cell?_setCell_same _ _ _ (h.c0 j hj), if_pos rfl]
    · rw [World.cell?_setCell_other _ _ _ _ (ne (by omega)), World.cell?_setCell_other _ _ _ _ (ne (by omega)), World.cell?_setCell_other _ _ _ _ (ne (by omega)), if_neg e]
      exact h.c0 j hj
  · by_cases e : j = k
    · subst e
      rw [World.cell?_setCell_other _ _ _ _ (ne (by omega)), World.cell?_setCell_same _ _ _ ((World.cell?_setCell_other _ _ _ _ (ne (by omega))).trans (h.c1 j hj)), if_pos rfl]
    · rw [World.cell?_setCell_other _ _ _ _ (ne (by omega)), World.cell?_setCell_other _ _ _ _ (ne (by omega)), World.cell?_setCell_other _ _ _ _ (ne (by omega)), if_neg e]
      exact h.c1 j hj
  · by_cases e : j = k
    · subst e
      rw [World.cell?_setCell_same _ _ _ ((World.cell?_setCell_other _ _ _ _ (ne (by omega))).trans ((World.cell?_setCell_other _ _ _ _ (ne (by omega))).trans (h.c2 j hj))), if_pos rfl]
    · rw [World.cell?_setCell_other _ _ _ _ (ne (by omega)), World.cell?_setCell_other _ _ _ _ (ne (by omega)), World.cell?_setCell_other _ _ _ _ (ne (by omega)), if_neg e]
      exact h.c2 j hj
theorem Holds3.exts {w : World} {g : Nat} {xs : List Ext} {E : Nat → Ext} (h : Holds3 w g xs.length E) (hE : ∀ j (hj : j < xs.length), E j = xs[j]) : Exts (· = g) w (.slice (some ⟨g, 0, none⟩) xs.length xs.length) xs := by
  refine ⟨_, _, rfl, Nat.le_refl _, .inr ⟨g, 0, rfl, rfl, fun j x hx => ?_⟩⟩
  obtain ⟨hj, rfl⟩ := List.getElem?_eq_some_iff.1 hx
  rw [← hE j hj]
  simp only [Nat.zero_add]
  exact ⟨h.c0 j hj, h.c1 j hj, h.c2 j hj⟩

/-! What is left of the objects. -/
def dropE (L : List Ent) (xs : List Int) : List Ent := L.filter fun e => !decide ((e.id : Int) ∈ xs)
theorem mem_dropE {L : List Ent} {xs : List Int} {e : Ent} : e ∈ dropE L xs ↔ e ∈ L ∧ ¬ (e.id : Int) ∈ xs := by simp [dropE]
theorem good_drop {m : Nat} {L : List Ent} (h : GoodE m L) (xs : List Int) : GoodE m (dropE L xs) :=
  ⟨h.rise.filter _, fun e he => h.rng e (mem_dropE.1 he).1, fun e he => h.ok e (mem_dropE.1 he).1⟩
theorem find_drop {m : Nat} {L : List Ent} (h : GoodE m L) (xs : List Int) (i : Int) : findE (dropE L xs) i = if i ∈ xs then none else findE L i := by
  by_cases hi : i ∈ xs
  · rw [if_pos hi]
    refine List.find?_eq_none.2 fun e he => ?_
    have := (mem_dropE.1 he).2
    simp only [decide_eq_true_eq]
    rintro rfl
    exact this hi
  · rw [if_neg hi]
    cases hf : findE L i with
    | none =>
      refine List.find?_eq_none.2 fun e he => ?_
      simpa using findE_none hf e (mem_dropE.1 he).1
    | some e =>
      obtain ⟨he, rfl⟩ := findE_some hf
      exact findE_of (good_drop h xs) (mem_dropE.2 ⟨he, hi⟩)
/-- The extent of the object i. -/
theorem atX_of {m : Nat} {L : List Ent} (h : GoodE m L) {e : Ent} (he : e ∈ L) : atX (plOf L) e.id = ext (erow e) := by
  unfold atX plOf
  rw [findE_of h he]; rfl
theorem rows_inj {n : Nat} {L : List Ent} (g : Good n (rowsE L)) : (L.map fun e => ext (erow e)).Nodup := by
  have h := g.apart
  unfold rowsE at h
  rw [List.pairwise_map] at h
  exact List.pairwise_map.2 (h.imp fun {a b} h => ext_inj h)
theorem ext_of_id {n : Nat} {L : List Ent} (g : Good n (rowsE L)) {a b : Ent} (ha : a ∈ L) (hb : b ∈ L) (he : ext (erow a) = ext (erow b)) : a = b := by
  have key : ∀ {L : List Ent}, L.Pairwise (fun a b => ext (erow a) ≠ ext (erow b)) → ∀ {a b : Ent}, a ∈ L → b ∈ L → ext (erow a) = ext (erow b) → a = b := by
    intro L
    induction L with
    | nil => intro _ a b ha; cases ha
    | cons q R ih =>
      intro hp a b ha hb he
      obtain ⟨h1, h2⟩ := List.pairwise_cons.1 hp
      rcases List.mem_cons.1 ha with e1 | ha
      · rcases List.mem_cons.1 hb with e2 | hb
        · rw [e1, e2]
        · have := h1 b hb; rw [e1] at he; exact absurd he this
      · rcases List.mem_cons.1 hb with e2 | hb
        · have := h1 a ha; rw [e2] at he; exact absurd he.symm this
        · exact ih h2 ha hb he
  exact key (List.pairwise_map.1 (rows_inj g)) ha hb he
/-- The extents of the numbers xs. -/
def extsOf (L : List Ent) (xs : List Int) : List Ext := xs.map (atX (plOf L))
theorem exts_ok {n m : Nat} {L : List Ent} (g : Good n (rowsE L)) (h : GoodE m L) {xs : List Int} (hx : okIds L xs) : okX (rowsE L) (extsOf L xs) := by
  have key : ∀ x ∈ xs, ∃ e ∈ L, (e.id : Int) = x ∧ atX (plOf L) x = ext (erow e) := fun x hxx => by
    obtain ⟨e, he⟩ := Option.isSome_iff_exists.1 (hx.1 x hxx)
    obtain ⟨h1, h2⟩ := findE_some he
    exact ⟨e, h1, h2, by rw [← h2]; exact atX_of h h1⟩
  refine ⟨fun y hy => ?_, ?_⟩
  · obtain ⟨x, hxx, rfl⟩ := List.mem_map.1 hy
    obtain ⟨e, h1, h2, h3⟩ := key x hxx
    exact isX_iff.2 ⟨erow e, List.mem_map.2 ⟨e, h1, rfl⟩, h3.symm⟩
  · refine List.pairwise_map.2 (hx.2.imp_of_mem fun {a b} ha hb hne e => hne ?_)
    obtain ⟨ea, a1, a2, a3⟩ := key a ha
    obtain ⟨eb, b1, b2, b3⟩ := key b hb
    rw [a3, b3] at e
    rw [← a2, ← b2, ext_of_id g a1 b1 e]
theorem rem_filter (R : List Row) : ∀ xs : List Ext, remOf R xs = R.filter fun r => !decide (ext r ∈ xs) := by
  intro xs
  induction xs generalizing R with
  | nil => show R = _; simp only [List.not_mem_nil, decide_false, Bool.not_false]; exact (List.filter_eq_self.2 fun _ _ => rfl).symm
  | cons x xs ih =>
    show remOf (without R x) xs = _
    rw [ih, without, List.filter_filter]
    congr 1
    funext r
    simp only [List.mem_cons]
    by_cases h1 : ext r = x <;> by_cases h2 : ext r ∈ xs <;> simp [h1, h2]
theorem rem_rows {n m : Nat} {L : List Ent} (g : Good n (rowsE L)) (h : GoodE m L) {xs : List Int} (hx : okIds L xs) : remOf (rowsE L) (extsOf L xs) = rowsE (dropE L xs) := by
  rw [rem_filter]
  unfold rowsE dropE
  rw [List.filter_map]
  congr 1
  refine List.filter_congr fun e he => ?_
  simp only [Function.comp_apply]
  congr 1
  rw [decide_eq_decide]
  constructor
  · intro hy
    obtain ⟨x, hxx, hxe⟩ := List.mem_map.1 hy
    obtain ⟨e2, he2⟩ := Option.isSome_iff_exists.1 (hx.1 x hxx)
    obtain ⟨h1, h2⟩ := findE_some he2
    rw [← h2, atX_of h h1] at hxe
    rw [ext_of_id g he h1 hxe.symm, h2]
    exact hxx
  · intro hy
    exact List.mem_map.2 ⟨_, hy, atX_of h he⟩
end Go.Proofs.YtccpmaahnfgkeaaGreatDoor
