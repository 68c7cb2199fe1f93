/- Words of our own for the memory that the laws of layer 9 speak of: which blocks a step may change, what a slice reads as. -/
import Derived.Test.YtechbageefmclaaRows
import Derived.WalkKit
import Derived.ProofKit
import Derived.OpenShut
import Derived.Handy
import Derived.Lib.Hide
import Derived.Laws.IdiomCopy
import Derived.Lib.SliceRun
import Derived.Deep.QuietTactic
import Derived.BigQuiet
import Derived.RegionTactic
import Derived.Laws.OwnMore
namespace Go.Proofs.Ytechbageefmclaa
open Go.ChangeShapes Go.WideShapes Go.ChangeAt Go.RowKit

/-- Of the blocks that were there, those outside F are as they were. -/
structure Only (F : Nat → Prop) (w w' : World) : Prop where
  os : w'.os = w.os
  tape : w'.tape = w.tape
  output : w'.output = w.output
  size : w.heap.size ≤ w'.heap.size
  block : ∀ k, k < w.heap.size → ¬ F k → w'.heap[k]? = w.heap[k]?

section
variable {F G : Nat → Prop} {a b c w w' : World}
theorem Only.refl (F : Nat → Prop) (w : World) : Only F w w := ⟨rfl, rfl, rfl, Nat.le_refl _, fun _ _ _ => rfl⟩
theorem Only.trans (h : Only F a b) (k : Only F b c) : Only F a c :=
  ⟨k.os.trans h.os, k.tape.trans h.tape, k.output.trans h.output, Nat.le_trans h.size k.size, fun i hi hx => (k.block i (Nat.lt_of_lt_of_le hi h.size) hx).trans (h.block i hi hx)⟩
/-- What the second step changes need be named only as far as it was there ahead of the first one. -/
theorem Only.then_ (h : Only F a b) (k : Only G b c) (hG : ∀ i, i < a.heap.size → G i → F i) : Only F a c :=
  ⟨k.os.trans h.os, k.tape.trans h.tape, k.output.trans h.output, Nat.le_trans h.size k.size, fun i hi hx => (k.block i (Nat.lt_of_lt_of_le hi h.size) fun g => hx (hG i hi g)).trans (h.block i hi hx)⟩
theorem Only.mono (h : Only F a b) (hG : ∀ i, i < a.heap.size → F i → G i) : Only G a b := ⟨h.os, h.tape, h.output, h.size, fun i hi hx => h.block i hi fun g => hx (hG i hi g)⟩
theorem Only.of_below (h : Below w.heap.size w w') : Only F w w' := ⟨h.os, h.tape, h.output, h.size, fun k hk _ => h.block k hk⟩
theorem Only.below {B : Nat} (h : Only F w w') (h1 : ∀ i, i < B → ¬ F i) (h2 : B ≤ w.heap.size) : Below B w w' := ⟨h.os, h.tape, h.output, h.size, fun k hk => h.block k (by omega) (h1 k hk)⟩
theorem Only.fresh (h : Only (fun _ => False) w w') : Below w.heap.size w w' := h.below (fun _ _ h => h) (Nat.le_refl _)
theorem Only.setCell (h : Only F a w) (p : Addr) (hp : F p.block ∨ a.heap.size ≤ p.block) (u : Value) : Only F a (w.setCell p u) :=
  ⟨h.os, h.tape, h.output, by simpa [World.setCell] using h.size, fun k hk hx => (Below.heap_setCell _ _ _ _ (by
    rintro rfl
    rcases hp with hp | hp
    · exact hx hp
    · omega)).trans (h.block k hk hx)⟩
theorem Only.alloc (h : Only F a w) (o : Obj) : Only F a (w.alloc o) :=
  ⟨h.os, h.tape, h.output, Nat.le_trans h.size (by simp), fun k hk hx => (Below.heap_alloc w o k (Nat.lt_of_lt_of_le hk h.size)).trans (h.block k hk hx)⟩
theorem Only.setCells (g : Nat) (hp : F g ∨ a.heap.size ≤ g) : ∀ (vs : List Value) (o : Nat) (w : World), Only F a w → Only F a (w.setCells g o vs)
  | [], _, _, h => h
  | v :: r, o, _, h => Only.setCells g hp r (o + 1) _ (h.setCell ⟨g, o, none⟩ hp v)
theorem Only.drewN (h : Only F a w) (n : Nat) : Only F a (w.drewN n) := ⟨h.os, h.tape, h.output, h.size, h.block⟩
theorem Only.cell (h : Only F w w') {p : Addr} (h1 : p.block < w.heap.size) (hp : ¬ F p.block) : w'.cell? p = w.cell? p := World.cell?_of_block (w := w) (h.block p.block h1 hp)
theorem Only.frozen (h : Only F w w') {p : Addr} (h1 : p.block < w.heap.size) (hp : ¬ F p.block) : w'.frozen? p = w.frozen? p := World.frozen?_of_block (w := w) (h.block p.block h1 hp)
theorem Only.grown {row : Option Nat} (h : Only F a w) (hg : w.grownBy w' row) (hr : ∀ k, row = some k → F k ∨ a.heap.size ≤ k) : Only F a w' :=
  ⟨hg.os.trans h.os, hg.tape.trans h.tape, hg.output.trans h.output, Nat.le_trans h.size hg.size, fun k hk hx => (hg.block k (Nat.lt_of_lt_of_le hk h.size) (fun e => by
    rcases hr k e.symm with h1 | h1
    · exact hx h1
    · omega)).trans (h.block k hk hx)⟩
end

/-- The slice value v holds the values vs, in a block of the kind N. -/
def Vals (N : Nat → Prop) (w : World) (v : Value) (vs : List Value) : Prop :=
  ∃ a c, v = .slice a vs.length c ∧ vs.length ≤ c ∧ (vs = [] ∨ ∃ b off, a = some ⟨b, off, none⟩ ∧ N b ∧ ∀ j u, vs[j]? = some u → w.cell? ⟨b, off + j, none⟩ = some u)
/-- .. the numbers xs. -/
def Ints (N : Nat → Prop) (w : World) (v : Value) (xs : List Int) : Prop := Vals N w v (xs.map (Value.int .i64))

section
variable {N M F : Nat → Prop} {w w' : World} {v : Value} {vs : List Value} {xs : List Int}
theorem Vals.only (h : Vals N w v vs) (o : Only F w w') (hF : ∀ b, N b → ¬ F b) : Vals N w' v vs := by
  obtain ⟨a, c, rfl, hc, h⟩ := h
  refine ⟨a, c, rfl, hc, h.imp id fun ⟨b, off, ha, hb, h⟩ => ⟨b, off, ha, hb, fun j u hu => ?_⟩⟩
  exact (o.cell (p := ⟨b, off + j, none⟩) (World.block_lt_of_cell? _ _ (h j u hu)) (hF b hb)).trans (h j u hu)
theorem Vals.kind (h : Vals N w v vs) (hM : ∀ b, b < w.heap.size → N b → M b) : Vals M w v vs := by
  obtain ⟨a, c, rfl, hc, h⟩ := h
  by_cases h0 : vs = []
  · exact ⟨a, c, rfl, hc, .inl h0⟩
  · obtain ⟨b, off, ha, hb, h⟩ := h.resolve_left h0
    obtain ⟨u, r, rfl⟩ := List.exists_cons_of_ne_nil h0
    exact ⟨a, c, rfl, hc, .inr ⟨b, off, ha, hM b (World.block_lt_of_cell? _ _ (h 0 u rfl)) hb, h⟩⟩
theorem Vals.at_ {k : Nat} (h : Vals N w v vs) (hk : k < vs.length) : ∃ b off c, v = .slice (some ⟨b, off, none⟩) vs.length c ∧ vs.length ≤ c ∧ N b ∧ b < w.heap.size ∧ w.cell? ⟨b, off + k, none⟩ = some vs[k] := by
  obtain ⟨a, c, rfl, hc, h⟩ := h
  rcases h with rfl | ⟨b, off, rfl, hb, h⟩
  · simp at hk
  · have := h k _ (List.getElem?_eq_getElem hk)
    exact ⟨b, off, c, rfl, hc, hb, World.block_lt_of_cell? _ _ this, this⟩
theorem Vals.heap (h : Vals N w v vs) (e : w'.heap = w.heap) : Vals N w' v vs := by
  obtain ⟨a, c, rfl, hc, h⟩ := h
  exact ⟨a, c, rfl, hc, h.imp id fun ⟨b, off, ha, hb, h⟩ => ⟨b, off, ha, hb, fun j u hu => (World.cell?_of_block (w := w) (by rw [e])).trans (h j u hu)⟩⟩
theorem Vals.of_own {base : Nat} {e : TypeId} (h : w.ownsRow base e 1 v vs.length vs) : Vals (base ≤ ·) w v vs := by
  rcases h.2 with ⟨rfl, h0⟩ | ⟨g, cap, cur, rfl, hb, hg, hn, _⟩
  · exact ⟨none, 0, by rw [h0], by omega, .inl (List.eq_nil_of_length_eq_zero h0)⟩
  · refine ⟨_, cap, rfl, hn, .inr ⟨g, 0, rfl, hb, fun j u hu => ?_⟩⟩
    have := h.cells (g := g) rfl j u hu
    rwa [add_plain] at this
theorem Ints.only (h : Ints N w v xs) (o : Only F w w') (hF : ∀ b, N b → ¬ F b) : Ints N w' v xs := Vals.only h o hF
end

theorem Only.both {F G : Nat → Prop} {w w' : World} (h : Only F w w') (k : Only G w w') : Only (fun i => F i ∧ G i) w w' :=
  ⟨h.os, h.tape, h.output, h.size, fun i hi hx => by
    by_cases hf : F i
    · exact k.block i hi (fun g => hx ⟨hf, g⟩)
    · exact h.block i hi hf⟩

theorem below_drewN {b : Nat} {w w' : World} (h : Below b w w') (d : Nat) : Below b w (w'.drewN d) := ⟨h.os, h.tape, h.output, h.size, h.block⟩
theorem only_set (w : World) (p : Addr) (u : Value) : Only (· = p.block) w (w.setCell p u) := (Only.refl (· = p.block) w).setCell p (.inl rfl) u
end Go.Proofs.Ytechbageefmclaa
