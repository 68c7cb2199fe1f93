/- A list of objects in memory of one's own, and what the law SecondKeeps keeps of a space in it. -/
import Derived.Test.YtccpmaahnfgkeaaGreatDoorSCp
import Derived.Laws.OwnMore
namespace Go.Proofs.YtccpmaahnfgkeaaGreatDoor
set_option maxRecDepth 1000000
open Go.ChangeShapes Go.WideShapes Go.ChangeAt Go.RowKit
open Wd (Ob okO encO refsO ObjAt In64 I64)

def KeepL (c : Sc) (v : Value) (b : Nat) : Prop := ¬ c.F b ∧ v.ownBlock ≠ some b
def ItemAt (N : Nat → Prop) (w : World) (xs : List Value) (j : Nat) (o : Ob) : Prop :=
  ∃ a1 c1 a2 c2, xs[j * 4]? = some (.int .i64 o.c) ∧ xs[j * 4 + 1]? = some (.int .i64 o.k) ∧ xs[j * 4 + 2]? = some (.slice a1 o.w.length c1) ∧ xs[j * 4 + 3]? = some (.slice a2 o.b.length c2) ∧
    ObjIn N w (.agg #[.int .i64 o.c, .int .i64 o.k, .slice a1 o.w.length c1, .slice a2 o.b.length c2]) o
/-- The list os in memory. -/
structure LastX (c : Sc) (w : World) (v : Value) (os : List Ob) (xs : List Value) : Prop where
  own : w.ownsRow (c.q + 1) 35 4 v os.length xs
  items : ∀ j o, os[j]? = some o → ItemAt (KeepL c v) w xs j o
  ok : ∀ o ∈ os, okO o = true
theorem own_only4 {w w' : World} {base n s : Nat} {e : TypeId} {v : Value} {xs : List Value} {F : Nat → Prop} (h : w.ownsRow base e s v n xs) (o : Only F w w') (hF : ∀ b, v.ownBlock = some b → ¬ F b) : w'.ownsRow base e s v n xs :=
  ⟨h.1, h.2.imp id fun ⟨g, cap, cur, h1, h2, h3, h4⟩ => ⟨g, cap, cur, h1, h2, (o.block g (Array.getElem?_eq_some_iff.1 h3).1 (hF g (by rw [h1]; rfl))).trans h3, h4⟩⟩
theorem LastX.only {c : Sc} {w w' : World} {v : Value} {os : List Ob} {xs : List Value} {F : Nat → Prop} (h : LastX c w v os xs) (o : Only F w w') (hF : ∀ b, F b → c.F b) : LastX c w' v os xs :=
  ⟨own_only4 h.own o (fun b hb hf => by have := (h.own.lt b hb).1; have := (hF b hf).2; omega), fun j x hx => by
    obtain ⟨a1, c1, a2, c2, h1, h2, h3, h4, h5⟩ := h.items j x hx
    exact ⟨a1, c1, a2, c2, h1, h2, h3, h4, h5.only o (fun b hb hf => hb.1 (hF b hf))⟩, h.ok⟩
theorem LastX.fresh {c : Sc} {w w' : World} {v : Value} {os : List Ob} {xs : List Value} (h : LastX c w v os xs) (b : Below w.heap.size w w') : LastX c w' v os xs := h.only (F := fun _ => False) (Only.of_below b) (fun _ h => h.elim)
theorem last_nil (c : Sc) (w : World) : LastX c w (.slice none 0 0) [] [] := ⟨World.ownsRow_nil _ _ _ _, fun j o h => by simp at h, fun o h => by cases h⟩
theorem LastX.push {c : Sc} {w w' : World} {v v' : Value} {os : List Ob} {xs : List Value} {o : Ob} {a1 a2 : Option Addr} {c1 c2 : Nat} (h : LastX c w v os xs)
    (own : w'.ownsRow (c.q + 1) 35 4 v' (os.length + 1) (xs ++ [.int .i64 o.c, .int .i64 o.k, .slice a1 o.w.length c1, .slice a2 o.b.length c2])) (hgr : w.grownBy w' v.ownBlock) (hat : v'.ownBlock = v.ownBlock ∨ v'.ownBlock = some w.heap.size)
    (ho : ObjIn (KeepL c v) w (.agg #[.int .i64 o.c, .int .i64 o.k, .slice a1 o.w.length c1, .slice a2 o.b.length c2]) o) (hok : okO o = true) :
    LastX c w' v' (os ++ [o]) (xs ++ [.int .i64 o.c, .int .i64 o.k, .slice a1 o.w.length c1, .slice a2 o.b.length c2]) := by
  have on : Only (fun b => v.ownBlock = some b) w w' := Only.grown (Only.refl _ _) hgr (fun k hk => .inl hk)
  have key : ∀ {u : Value} {x : Ob}, ObjIn (KeepL c v) w u x → ObjIn (KeepL c v') w' u x := fun {u x} hu => by
    refine ObjIn.kind (ObjIn.only (ObjIn.kind hu (M := fun b => KeepL c v b ∧ b < w.heap.size) (fun b hb h => ⟨h, hb⟩)) on (fun b hb e => hb.1.2 e)) (fun b _ hb => ⟨hb.1.1, fun e => ?_⟩)
    rcases hat with h | h
    · rw [h] at e; exact hb.1.2 e
    · rw [h] at e; injection e with e; have := hb.2; omega
  have hlx : xs.length = os.length * 4 := h.own.1
  refine ⟨by rw [List.length_append]; exact own, fun j x hx => ?_, fun x hx => ?_⟩
  · rcases Nat.lt_or_ge j os.length with hj | hj
    · rw [List.getElem?_append_left hj] at hx
      obtain ⟨b1, d1, b2, d2, h1, h2, h3, h4, h5⟩ := h.items j x hx
      refine ⟨b1, d1, b2, d2, ?_, ?_, ?_, ?_, key h5⟩ <;> (rw [List.getElem?_append_left (by omega)]; assumption)
    · rw [List.getElem?_append_right hj] at hx
      have hj2 : j = os.length := by
        rcases Nat.lt_or_ge (j - os.length) 1 with h | h
        · omega
        · rw [List.getElem?_eq_none (by simpa using h)] at hx; cases hx
      subst hj2
      simp at hx
      subst hx
      refine ⟨a1, c1, a2, c2, ?_, ?_, ?_, ?_, key ho⟩
      · rw [List.getElem?_append_right (by omega), show os.length * 4 - xs.length = 0 by omega]; rfl
      · rw [List.getElem?_append_right (by omega), show os.length * 4 + 1 - xs.length = 1 by omega]; rfl
      · rw [List.getElem?_append_right (by omega), show os.length * 4 + 2 - xs.length = 2 by omega]; rfl
      · rw [List.getElem?_append_right (by omega), show os.length * 4 + 3 - xs.length = 3 by omega]; rfl
  · rcases List.mem_append.1 hx with h' | h'
    · exact h.ok x h'
    · rw [List.mem_singleton.1 h']; exact hok
theorem LastX.form {c : Sc} {w : World} {v : Value} {os : List Ob} {xs : List Value} (h : LastX c w v os xs) : ∃ a cap, v = .slice a os.length cap ∧ os.length ≤ cap := by
  rcases h.own.2 with ⟨rfl, h0⟩ | ⟨g, cap, cur, rfl, _, _, hn, _⟩
  · exact ⟨none, 0, by rw [h0], by omega⟩
  · exact ⟨_, cap, rfl, hn⟩
theorem LastX.row {c : Sc} {w : World} {v : Value} {os : List Ob} {xs : List Value} (h : LastX c w v os xs) (h0 : 0 < os.length) : ∃ g cap, v = .slice (some ⟨g, 0, none⟩) os.length cap ∧ os.length ≤ cap ∧ c.q < g ∧ g < w.heap.size := by
  rcases h.own.2 with ⟨rfl, h0⟩ | ⟨g, cap, cur, rfl, hb, hg, hn, _⟩
  · omega
  · exact ⟨g, cap, rfl, hn, hb, (Array.getElem?_eq_some_iff.1 hg).1⟩
theorem LastX.cells {c : Sc} {w : World} {g cap : Nat} {os : List Ob} {xs : List Value} {j : Nat} {o : Ob} (h : LastX c w (.slice (some ⟨g, 0, none⟩) os.length cap) os xs) (hj : os[j]? = some o) :
    ∃ a1 c1 a2 c2, w.cell? ⟨g, j * 4, none⟩ = some (.int .i64 o.c) ∧ w.cell? ⟨g, j * 4 + 1, none⟩ = some (.int .i64 o.k) ∧ w.cell? ⟨g, j * 4 + 2, none⟩ = some (.slice a1 o.w.length c1) ∧ w.cell? ⟨g, j * 4 + 3, none⟩ = some (.slice a2 o.b.length c2) ∧
      ObjAt w (.agg #[.int .i64 o.c, .int .i64 o.k, .slice a1 o.w.length c1, .slice a2 o.b.length c2]) o := by
  obtain ⟨a1, c1, a2, c2, h1, h2, h3, h4, h5⟩ := h.items j o hj
  have hl : j < os.length := (List.getElem?_eq_some_iff.1 hj).1
  exact ⟨a1, c1, a2, c2, (h.own.cellAt _ (by omega)).trans h1, (h.own.cellAt _ (by omega)).trans h2, (h.own.cellAt _ (by omega)).trans h3, (h.own.cellAt _ (by omega)).trans h4, h5.at_⟩
theorem put_row (w : World) (g i1 i2 i3 i4 : Nat) (x y z u : Value) : Only (· = g) w ((((w.setCell ⟨g, i1, none⟩ x).setCell ⟨g, i2, none⟩ y).setCell ⟨g, i3, none⟩ z).setCell ⟨g, i4, none⟩ u) :=
  ((((Only.refl (· = g) w).setCell ⟨g, i1, none⟩ (.inl rfl) x).setCell ⟨g, i2, none⟩ (.inl rfl) y).setCell ⟨g, i3, none⟩ (.inl rfl) z).setCell ⟨g, i4, none⟩ (.inl rfl) u
theorem LastX.put {c : Sc} {w : World} {g cap : Nat} {os : List Ob} {xs : List Value} {j : Nat} {o : Ob} {a1 a2 : Option Addr} {c1 c2 : Nat} (h : LastX c w (.slice (some ⟨g, 0, none⟩) os.length cap) os xs) (hj : j < os.length)
    (ho : ObjIn (KeepL c (.slice (some ⟨g, 0, none⟩) os.length cap)) w (.agg #[.int .i64 o.c, .int .i64 o.k, .slice a1 o.w.length c1, .slice a2 o.b.length c2]) o) (hok : okO o = true) :
    ∃ xs', LastX c ((((w.setCell ⟨g, j * 4, none⟩ (.int .i64 o.c)).setCell ⟨g, j * 4 + 1, none⟩ (.int .i64 o.k)).setCell ⟨g, j * 4 + 2, none⟩ (.slice a1 o.w.length c1)).setCell ⟨g, j * 4 + 3, none⟩ (.slice a2 o.b.length c2)) (.slice (some ⟨g, 0, none⟩) (os.set j o).length cap) (os.set j o) xs' := by
  have h1 := (h.own.stored (j * 4) (.int .i64 o.c)).1
  have h2 := (h1.stored (j * 4 + 1) (.int .i64 o.k)).1
  have h3 := (h2.stored (j * 4 + 2) (.slice a1 o.w.length c1)).1
  have h4 := (h3.stored (j * 4 + 3) (.slice a2 o.b.length c2)).1
  have on : Only (· = g) w ((((w.setCell ⟨g, j * 4, none⟩ (.int .i64 o.c)).setCell ⟨g, j * 4 + 1, none⟩ (.int .i64 o.k)).setCell ⟨g, j * 4 + 2, none⟩ (.slice a1 o.w.length c1)).setCell ⟨g, j * 4 + 3, none⟩ (.slice a2 o.b.length c2)) :=
    put_row w g _ _ _ _ _ _ _ _
  have key : ∀ {u : Value} {x : Ob}, ObjIn (KeepL c (.slice (some ⟨g, 0, none⟩) os.length cap)) w u x → ObjIn (KeepL c (.slice (some ⟨g, 0, none⟩) os.length cap)) _ u x := fun {u x} hu => hu.only on (fun b hb e => hb.2 (by rw [e]; rfl))
  have hlx : xs.length = os.length * 4 := h.own.1
  refine ⟨_, by rw [List.length_set]; exact h4, fun i x hx => ?_, fun x hx => ?_⟩
  · rw [List.length_set]
    by_cases hij : i = j
    · subst hij
      rw [List.getElem?_set_self hj] at hx
      injection hx with hx
      subst hx
      refine ⟨a1, c1, a2, c2, ?_, ?_, ?_, ?_, key ho⟩ <;> simp [List.getElem?_set] <;> omega
    · rw [List.getElem?_set_ne (fun e => hij e.symm)] at hx
      obtain ⟨b1, d1, b2, d2, g1, g2, g3, g4, g5⟩ := h.items i x hx
      refine ⟨b1, d1, b2, d2, ?_, ?_, ?_, ?_, key g5⟩
      · rw [List.getElem?_set_ne (by omega), List.getElem?_set_ne (by omega), List.getElem?_set_ne (by omega), List.getElem?_set_ne (by omega)]; exact g1
      · rw [List.getElem?_set_ne (by omega), List.getElem?_set_ne (by omega), List.getElem?_set_ne (by omega), List.getElem?_set_ne (by omega)]; exact g2
      · rw [List.getElem?_set_ne (by omega), List.getElem?_set_ne (by omega), List.getElem?_set_ne (by omega), List.getElem?_set_ne (by omega)]; exact g3
      · rw [List.getElem?_set_ne (by omega), List.getElem?_set_ne (by omega), List.getElem?_set_ne (by omega), List.getElem?_set_ne (by omega)]; exact g4
  · rcases List.mem_or_eq_of_mem_set hx with h' | h'
    · exact h.ok x h'
    · rw [h']; exact hok

/-! What the law keeps. -/
def KpOk (os : List Ob) (L : List Ent) : Prop := ∀ e ∈ L, 1 ≤ e.id ∧ os[e.id - 1]? = some e.o
theorem KpOk.make {os : List Ob} {L : List Ent} (h : KpOk os L) (o : Ob) (a : Nat) : KpOk (os ++ [o]) (L ++ [⟨os.length + 1, o, a⟩]) := by
  intro e he
  rcases List.mem_append.1 he with he | he
  · obtain ⟨h1, h2⟩ := h e he
    exact ⟨h1, by rw [List.getElem?_append_left (List.getElem?_eq_some_iff.1 h2).1]; exact h2⟩
  · rw [List.mem_singleton.1 he]
    exact ⟨by simp, by simp⟩
theorem KpOk.store {os : List Ob} {L : List Ent} (h : KpOk os L) {x : Ent} (hx : x ∈ L) (o : Ob) (a : Nat) : KpOk (os.set (x.id - 1) o) (setE L x.id o a) := by
  intro e he
  obtain ⟨e', he', rfl⟩ := List.mem_map.1 he
  obtain ⟨g1, g2⟩ := h x hx
  obtain ⟨h1, h2⟩ := h e' he'
  by_cases hi : e'.id = x.id
  · rw [if_pos hi]
    exact ⟨g1, List.getElem?_set_self (List.getElem?_eq_some_iff.1 g2).1⟩
  · rw [if_neg hi]
    exact ⟨h1, by rw [List.getElem?_set_ne (by omega)]; exact h2⟩
theorem KpOk.sub {os : List Ob} {L L' : List Ent} (h : KpOk os L) (hs : ∀ e ∈ L', e ∈ L) : KpOk os L' := fun e he => h e (hs e he)
end Go.Proofs.YtccpmaahnfgkeaaGreatDoor
