/- Rows of extents that a law itself makes; and how an argument of type [][]byte is read. No condition but those that each statement names. -/
import Derived.Test.YtkjpemgoiobeeaaDoorESz
namespace Go.Proofs.YtkjpemgoiobeeaaDoor
set_option maxRecDepth 1000000
open Go.ChangeShapes Go.WideShapes Go.ChangeAt Go.RowKit

theorem Tryd.info32 : (Tryd.prog.info? 32).map (fun i => (i.zero, i.size, i.bytes)) = some (some (.agg #[.int .i64 0, .int .i64 0, .int .i64 0]), 3, 24) := by kernel_rfl

/-- Extents as cells. -/
def flatX (xs : List Ext) : List Value := xs.flatMap fun x => [.int .i64 x.f, .int .i64 x.n, .int .i64 x.s]
theorem flatX_cons (x : Ext) (xs : List Ext) : flatX (x :: xs) = .int .i64 x.f :: .int .i64 x.n :: .int .i64 x.s :: flatX xs := by simp [flatX]
theorem flatX_append (xs ys : List Ext) : flatX (xs ++ ys) = flatX xs ++ flatX ys := by simp [flatX]
theorem flatX_len (xs : List Ext) : (flatX xs).length = xs.length * 3 := by
  induction xs with
  | nil => rfl
  | cons x xs ih => rw [flatX_cons]; simp [ih]; omega
theorem flatX_get : ∀ (xs : List Ext) (j : Nat) (x : Ext), xs[j]? = some x → (flatX xs)[j * 3]? = some (.int .i64 x.f) ∧ (flatX xs)[j * 3 + 1]? = some (.int .i64 x.n) ∧ (flatX xs)[j * 3 + 2]? = some (.int .i64 x.s)
  | [], j, x, h => by simp at h
  | y :: xs, 0, x, h => by
    simp at h
    subst h
    rw [flatX_cons]
    simp
  | y :: xs, j + 1, x, h => by
    have ih := flatX_get xs j x (by simpa using h)
    rw [flatX_cons]
    rw [show (j + 1) * 3 = j * 3 + 1 + 1 + 1 by omega, show j * 3 + 1 + 1 + 1 + 1 = j * 3 + 1 + 1 + 1 + 1 from rfl, show j * 3 + 1 + 1 + 1 + 2 = j * 3 + 2 + 1 + 1 + 1 by omega]
    simp only [List.getElem?_cons_succ]
    exact ih
theorem flatX_one (xs : List Ext) : ∀ u ∈ flatX xs, u.oneCell' = true := by
  intro u hu
  simp only [flatX, List.mem_flatMap] at hu
  obtain ⟨x, _, hu⟩ := hu
  simp at hu
  rcases hu with rfl | rfl | rfl <;> rfl

/-- The slice value v holds the extents xs in a block of the law's own, from B on. -/
def OwnX (B : Nat) (w : World) (v : Value) (xs : List Ext) : Prop := w.ownsRow B 32 3 v xs.length (flatX xs)
theorem OwnX.only {B : Nat} {w w' : World} {v : Value} {xs : List Ext} {F : Nat → Prop} (h : OwnX B w v xs) (o : Only F w w') (hF : ∀ b, B ≤ b → ¬ F b) : OwnX B w' v xs :=
  ⟨h.1, h.2.imp id fun ⟨g, cap, cur, h1, h2, h3, h4⟩ => ⟨g, cap, cur, h1, h2, (o.block g (Array.getElem?_eq_some_iff.1 h3).1 (hF g h2)).trans h3, h4⟩⟩
theorem OwnX.fresh {B : Nat} {w w' : World} {v : Value} {xs : List Ext} (h : OwnX B w v xs) (o : Below w.heap.size w w') : OwnX B w' v xs :=
  h.only (F := fun _ => False) (Only.of_below o) (fun _ _ h => h)
theorem OwnX.exts {B : Nat} {w : World} {v : Value} {xs : List Ext} (h : OwnX B w v xs) : Exts (B ≤ ·) w v xs := by
  rcases h.2 with ⟨rfl, h0⟩ | ⟨g, cap, cur, rfl, hb, hg, hn, _⟩
  · have : xs = [] := List.eq_nil_of_length_eq_zero h0
    subst this
    exact ⟨none, 0, rfl, Nat.le_refl _, .inl rfl⟩
  · refine ⟨_, cap, rfl, hn, .inr ⟨g, 0, rfl, hb, fun j x hx => ?_⟩⟩
    obtain ⟨h1, h2, h3⟩ := flatX_get xs j x hx
    have hc := fun j u hu => World.ownsRow.cells h (g := g) rfl j u hu
    have e1 := hc _ _ h1
    have e2 := hc _ _ h2
    have e3 := hc _ _ h3
    rw [add_plain] at e1 e2 e3
    rw [Nat.zero_add] at e1 e2 e3
    rw [Nat.zero_add]
    exact ⟨e1, e2, e3⟩
theorem OwnX.form {B : Nat} {w : World} {v : Value} {xs : List Ext} (h : OwnX B w v xs) : ∃ a c, v = .slice a xs.length c := by
  rcases h.2 with ⟨rfl, h0⟩ | ⟨g, cap, cur, rfl, _⟩
  · exact ⟨none, 0, by rw [h0]⟩
  · exact ⟨_, _, rfl⟩

/-- The slice value v has len rows of bytes. -/
def RowsB (w : World) (v : Value) (len : Nat) : Prop :=
  ∃ a c, v = .slice a len c ∧ len ≤ maxLen ∧ (len = 0 ∨ ∃ b off, a = some ⟨b, off, none⟩ ∧ ∀ i, i < len → ∃ (bv : Value) (bs : List Int), ArgB w bv bs ∧ w.cell? ⟨b, off + i, none⟩ = some bv)
theorem RowsB.at_ {w w' : World} {v : Value} {len k : Nat} (h : RowsB w v len) (hk : k < len) (hb : Below w.heap.size w w') :
    ∃ b off c, v = .slice (some ⟨b, off, none⟩) len c ∧ b < w.heap.size ∧ ∃ (ba : Option Addr) (bc : Nat) (bs : List Int), Bts (· < w.heap.size) w' (.slice ba bs.length bc) bs ∧ Bytes bs ∧ bs.length ≤ maxLen ∧ w'.cell? ⟨b, off + k, none⟩ = some (.slice ba bs.length bc) := by
  obtain ⟨a, c, rfl, _, h⟩ := h
  obtain ⟨b, off, rfl, h'⟩ := h.resolve_left (by omega)
  obtain ⟨bv, bs, hbv, c1⟩ := h' k hk
  obtain ⟨ba, bc, rfl, _⟩ := hbv.1.form
  have hl : b < w.heap.size := World.block_lt_of_cell? _ _ c1
  exact ⟨b, off, c, rfl, hl, ba, bc, bs, hbv.1.only (Only.of_below (F := fun _ => False) hb) (fun _ _ h => h), hbv.2.1, hbv.2.2, (hb.cell (p := ⟨b, _, none⟩) hl).trans c1⟩
theorem open_rows {H : Type} {enc : TypeId × Value → H} {W : World} {base : Nat} {v : Value} {d : DataW H} {ps : List MemPlace} (hok : Value.okWide Tryd.prog W .any base 54 v)
    (h : DataW.Trod enc Tryd.prog W 0 (fun _ => true) true 54 v d ps) : ∃ n, RowsB W v n := by
  obtain ⟨a0, len, cap, rfl⟩ := okWide_slice Tryd.underlying54 hok
  obtain ⟨fuel, hf⟩ := h
  rcases Deep.open_slice1 Tryd.underlying54 Tryd.cells33 hf with ⟨hcs, _⟩ | ⟨a, len', cap', m, n, V, D, Pl, hcs, _, hl, hm, hmm, _, hi⟩
  · simp [Value.cells] at hcs
    obtain ⟨rfl, rfl, rfl⟩ := hcs
    exact ⟨0, none, 0, rfl, Nat.zero_le _, .inl rfl⟩
  · simp [Value.cells] at hcs
    obtain ⟨rfl, rfl, rfl⟩ := hcs
    simp only [if_true] at hmm
    subst hmm
    have all : ∀ i, i < len → ∃ (bv : Value) (bs : List Int), ArgB W bv bs ∧ W.cell? (a.add i) = some bv := fun i hlt => by
      obtain ⟨h1, h2⟩ := hi i (by omega)
      obtain ⟨v', xs, hv, hx⟩ := bytes_cells h2
      obtain rfl : V i = v' := by simpa using hv
      exact ⟨_, xs, hx, h1⟩
    refine ⟨len, some a, _, rfl, by omega, ?_⟩
    by_cases h0 : len = 0
    · exact .inl h0
    · obtain ⟨b, off, spot⟩ := a
      obtain ⟨_, _, _, c0⟩ := all 0 (by omega)
      have hspot : spot = none := by simpa [Addr.add] using World.cell?_spot c0
      subst hspot
      refine .inr ⟨b, off, rfl, fun i hi => ?_⟩
      have := all i hi
      simp only [add_plain] at this
      exact this

theorem total_le {n : Nat} {R : List Row} (h : Good n R) : total R ≤ n := by rw [← cnt_total h]; exact cnt_le _ _ _
theorem len_total : ∀ (R : List Row), R.length ≤ total R
  | [] => Nat.le_refl _
  | r :: R => by
    have := len_total R
    have h1 := len_pos r
    simp [total] at this ⊢
    omega
theorem full_empty {n q a : Nat} (h : FirstIs (tk []) n q a false) : n < q := by
  rcases h with ⟨h, _⟩ | ⟨_, _, h⟩
  · cases h
  · rcases Nat.lt_or_ge n q with h1 | h1
    · exact h1
    · obtain ⟨k, _, e⟩ := h 0 (by omega)
      cases e
end Go.Proofs.YtkjpemgoiobeeaaDoor
