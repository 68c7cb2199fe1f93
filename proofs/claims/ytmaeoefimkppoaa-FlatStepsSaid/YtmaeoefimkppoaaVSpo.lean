/- What the laws' own function Spoil does (bytes of one's own are written over, nothing else), and what Copy of package wide makes: an object like it, in rows of its own. -/
import Derived.Test.YtmaeoefimkppoaaVRfw
import Derived.Deep.RegionWith
namespace Go.Proofs.Ytmaeoefimkppoaa.Wd
open Go.ChangeShapes Go.WideShapes Go.ChangeAt Go.RowKit
set_option maxRecDepth 1000000

/-- No block that was there, and is not one of F, has changed. -/
structure Only (F : Nat → Prop) (w w' : World) : Prop where
  os : w'.os = w.os
  tape : w'.tape = w.tape
  output : w'.output = w.output
  size : w.heap.size ≤ w'.heap.size
  block : ∀ k, k < w.heap.size → ¬ F k → w'.heap[k]? = w.heap[k]?

section
variable {F G : Nat → Prop} {a b c w w' : World}
theorem Only.refl (F : Nat → Prop) (w : World) : Only F w w := ⟨rfl, rfl, rfl, Nat.le_refl _, fun _ _ _ => rfl⟩
theorem Only.trans (h : Only F a b) (k : Only F b c) : Only F a c :=
  ⟨k.os.trans h.os, k.tape.trans h.tape, k.output.trans h.output, Nat.le_trans h.size k.size, fun i hi hx => (k.block i (Nat.lt_of_lt_of_le hi h.size) hx).trans (h.block i hi hx)⟩
theorem Only.below {B : Nat} (h : Only F w w') (h1 : ∀ i, i < B → ¬ F i) (h2 : B ≤ w.heap.size) : Below B w w' := ⟨h.os, h.tape, h.output, h.size, fun k hk => h.block k (by omega) (h1 k hk)⟩
theorem Only.setCell (h : Only F a w) (p : Addr) (hp : F p.block) (u : Value) : Only F a (w.setCell p u) :=
  ⟨h.os, h.tape, h.output, by simpa [World.setCell] using h.size, fun k hk hx => (Below.heap_setCell _ _ _ _ (by
    rintro rfl
    exact hx hp)).trans (h.block k hk hx)⟩
theorem Only.cell (h : Only F w w') {p : Addr} (h1 : p.block < w.heap.size) (hp : ¬ F p.block) : w'.cell? p = w.cell? p := World.cell?_of_block (w := w) (h.block p.block h1 hp)
theorem Only.frozen (h : Only F w w') {p : Addr} (h1 : p.block < w.heap.size) (hp : ¬ F p.block) : w'.frozen? p = w.frozen? p := World.frozen?_of_block (w := w) (h.block p.block h1 hp)
end
theorem Box.only {F : Nat → Prop} {w w' : World} {p : Nat} {x y z u : Value} (h : Box p x y z u w) (o : Only F w w') (hp : ¬ F p) : Box p x y z u w' :=
  ⟨⟨(o.cell (p := ⟨p, 0, none⟩) h.2.2 hp).trans h.1.1, (o.cell (p := ⟨p, 1, none⟩) h.2.2 hp).trans h.1.2.1, (o.cell (p := ⟨p, 2, none⟩) h.2.2 hp).trans h.1.2.2.1, (o.cell (p := ⟨p, 3, none⟩) h.2.2 hp).trans h.1.2.2.2⟩, fun j => (o.frozen (p := ⟨p, j, none⟩) h.2.2 hp).trans (h.2.1 j), Nat.lt_of_lt_of_le h.2.2 o.size⟩
theorem own_only {F : Nat → Prop} {w w' : World} {base n : Nat} {e : TypeId} {v : Value} {xs : List Value} (h : w.ownsRow base e 1 v n xs) (o : Only F w w') (hF : ∀ g, v.ownBlock = some g → ¬ F g) : w'.ownsRow base e 1 v n xs :=
  ⟨h.1, h.2.imp id fun ⟨g, cap, cur, h1, h2, h3, h4⟩ => ⟨g, cap, cur, h1, h2, (o.block g (Array.getElem?_eq_some_iff.1 h3).1 (hF g (by rw [h1]; rfl))).trans h3, h4⟩⟩
/-- Rows of two kinds are two blocks. -/
theorem own_apart {w : World} {base base' n n' : Nat} {v v' : Value} {xs xs' : List Value} (h : w.ownsRow base 3 1 v n xs) (h' : w.ownsRow base' 5 1 v' n' xs') (g : Nat) (e : v.ownBlock = some g) : ¬ v'.ownBlock = some g := by
  intro e'
  rcases h.2 with ⟨rfl, _⟩ | ⟨g1, _, _, rfl, _, h3, _⟩
  · simp [Value.ownBlock] at e
  rcases h'.2 with ⟨rfl, _⟩ | ⟨g2, _, _, rfl, _, h4, _⟩
  · simp [Value.ownBlock] at e'
  simp only [Value.ownBlock, Option.some.injEq] at e e'
  subst e e'
  rw [h3] at h4
  simp at h4

def SpoilInv (F : Nat → Prop) (g len k : Nat) (xs : List Int) (w wr : World) : Prop :=
  (∀ j, k ≤ j → j < len → wr.cell? ⟨g, j, none⟩ = some (.int .u8 (xs.getD j 0))) ∧ (∀ j, wr.frozen? ⟨g, j, none⟩ = false) ∧ Only F w wr
def SpoilPost (F : Nat → Prop) (w : World) (e : Ending) (w' : World) : Prop := e = .returned (.tuple #[]) ∧ Only F w w'

theorem two_boxes (w : World) (x y z u x' y' z' u' : Value) : Box w.heap.size x y z u ((w.alloc (.cells #[x, y, z, u] 33)).alloc (.cells #[x', y', z', u'] 33)) ∧ Box (w.heap.size + 1) x' y' z' u' ((w.alloc (.cells #[x, y, z, u] 33)).alloc (.cells #[x', y', z', u'] 33)) := by
  refine ⟨(box_new w x y z u).kept (B := w.heap.size + 1) ((Below.refl _ _).alloc (by simp) _) (by omega) (by simp), ?_⟩
  have h := box_new (w.alloc (.cells #[x, y, z, u] 33)) x' y' z' u'
  rw [show (w.alloc (.cells #[x, y, z, u] 33)).heap.size = w.heap.size + 1 by simp] at h
  exact h
/-- Copy of package wide: what it makes. -/
def CopyPost (o : Ob) (w : World) (e : Ending) (w' : World) : Prop :=
  ∃ wv bv, e = .returned (.agg #[.int .i64 o.c, .int .i64 o.k, wv, bv]) ∧ w'.ownsRow w.heap.size 3 1 wv o.w.length (o.w.map (Value.int .i64)) ∧ w'.ownsRow w.heap.size 5 1 bv o.b.length (o.b.map (Value.int .u8)) ∧ Below w.heap.size w w'
def CpS (w : World) (c k : Int) (wv bv : Value) (w' : World) : Prop :=
  Box w.heap.size (.int .i64 c) (.int .i64 k) wv bv w' ∧ Box (w.heap.size + 1) (.int .i64 0) (.int .i64 0) (.slice none 0 0) (.slice none 0 0) w' ∧ Below w.heap.size w w'
theorem CpS.kept {w w' w'' : World} {c k : Int} {wv bv : Value} (h : CpS w c k wv bv w') (hb : Below w'.heap.size w' w'') : CpS w c k wv bv w'' :=
  ⟨h.1.next hb, h.2.1.next hb, h.2.2.trans (hb.mono h.2.2.size)⟩
theorem cpE_end {w : World} {c k : Int} {l b : List Int} {v5 v6 : Value} (W : World) (hW : Box (w.heap.size + 1) (.int .i64 0) (.int .i64 0) (.slice none 0 0) (.slice none 0 0) W) (hB : Below w.heap.size w W)
    (h3 : W.ownsRow (w.heap.size + 2) 3 1 v5 l.length (l.map (Value.int .i64))) (h5 : W.ownsRow (w.heap.size + 2) 5 1 v6 b.length (b.map (Value.int .u8))) :
    Box (w.heap.size + 1) (.int .i64 c) (.int .i64 k) v5 v6 ((((W.setCell ⟨w.heap.size + 1, 0, none⟩ (.int .i64 c)).setCell ⟨w.heap.size + 1, 1, none⟩ (.int .i64 k)).setCell ⟨w.heap.size + 1, 2, none⟩ v5).setCell ⟨w.heap.size + 1, 3, none⟩ v6) ∧
    CopyPost ⟨c, k, l, b⟩ w (.returned (.agg #[.int .i64 c, .int .i64 k, v5, v6])) ((((W.setCell ⟨w.heap.size + 1, 0, none⟩ (.int .i64 c)).setCell ⟨w.heap.size + 1, 1, none⟩ (.int .i64 k)).setCell ⟨w.heap.size + 1, 2, none⟩ v5).setCell ⟨w.heap.size + 1, 3, none⟩ v6) := by
  refine ⟨hW.put _ _ _ _, v5, v6, rfl, ?_, ?_, put_below hB (by omega)⟩
  · exact own_down (own_set (own_set (own_set (own_set h3 (by omega)) (by omega)) (by omega)) (by omega)) (by omega)
  · exact own_down (own_set (own_set (own_set (own_set h5 (by omega)) (by omega)) (by omega)) (by omega)) (by omega)

set_option maxHeartbeats 4000000 in
theorem copyO_any (v : Value) (o : Ob) (w : World) (h : ObjAt w v o) (hs : Short o) : Calls Try.prog 49 #[v] w (CopyPost o w) := by
  obtain ⟨wv, bv, rfl, hw, hb, _, _⟩ := h
  have W1 := Lib.hid hw.1
  have B1 := Lib.hid hb.1
  obtain ⟨_, _, a1, c1, rfl, _⟩ := hw
  obtain ⟨_, _, a2, c2, rfl, _⟩ := hb
  obtain ⟨c, k, l, b⟩ := o
  simp only at *
  have HI : Hid (∀ w', Hid (CpS w c k (.slice a1 l.length c1) (.slice a2 b.length c2) w') → Calls Try.prog 67 #[.slice a1 l.length c1] w' fun e w'' => ∃ a' c', e = .returned (.slice a' l.length c') ∧ Hid (w''.ownsRow (w.heap.size + 2) 3 1 (.slice a' l.length c') l.length (l.map (Value.int .i64))) ∧ Hid (CpS w c k (.slice a1 l.length c1) (.slice a2 b.length c2) w'') ∧ Hid (Below w'.heap.size w' w'')) := fun w' h => (cloneI_any _ l w' (W1.out.kept h.out.2.2) hs.1).mono fun _ _ ⟨v, he, ho, hb⟩ => by
    obtain ⟨a', c', rfl, _⟩ := own_room ho
    exact ⟨a', c', he, own_down ho h.out.2.1.2.2, h.out.kept hb, hb⟩
  have HB : Hid (∀ w', Hid (CpS w c k (.slice a1 l.length c1) (.slice a2 b.length c2) w') → Calls Try.prog 68 #[.slice a2 b.length c2] w' fun e w'' => ∃ a' c', e = .returned (.slice a' b.length c') ∧ Hid (w''.ownsRow (w.heap.size + 2) 5 1 (.slice a' b.length c') b.length (b.map (Value.int .u8))) ∧ Hid (CpS w c k (.slice a1 l.length c1) (.slice a2 b.length c2) w'') ∧ Hid (Below w'.heap.size w' w'')) := fun w' h => (cloneB_any _ b w' (B1.out.kept h.out.2.2) hs.2).mono fun _ _ ⟨v, he, ho, hb⟩ => by
    obtain ⟨a', c', rfl, _⟩ := own_room ho
    exact ⟨a', c', he, own_down ho h.out.2.1.2.2, h.out.kept hb, hb⟩
  have h0 : Hid (CpS w c k (.slice a1 l.length c1) (.slice a2 b.length c2) ((w.alloc (.cells #[.int .i64 c, .int .i64 k, .slice a1 l.length c1, .slice a2 b.length c2] 33)).alloc (.cells #[.int .i64 0, .int .i64 0, .slice none 0 0, .slice none 0 0] 33)).drew) := by
    obtain ⟨t1, t2⟩ := two_boxes w (.int .i64 c) (.int .i64 k) (.slice a1 l.length c1) (.slice a2 b.length c2) (.int .i64 0) (.int .i64 0) (.slice none 0 0) (.slice none 0 0)
    exact CpS.kept ⟨t1, t2, bel2 w _ _⟩ (below_drewN _ _ 1)
  have h00 := h0
  obtain ⟨⟨⟨x0, x1, x2, x3⟩, xf, _⟩, ⟨⟨y0, y1, y2, y3⟩, yf, _⟩, _⟩ := h00.out
  go_enter Try.func49, Try.ntmps49
  go_wp2
  go_region_with (first | (go_at_call 67; refine (HI.out _ (by assumption)).mono ?_; rintro e w5 ⟨a5, c5, rfl, O5, S5, K5⟩; obtain ⟨⟨⟨p0, p1, p2, p3⟩, pf, _⟩, ⟨⟨q0, q1, q2, q3⟩, qf, _⟩, _⟩ := S5.out) | (go_at_call 68; refine (HB.out _ (by assumption)).mono ?_; rintro e w6 ⟨a6, c6, rfl, O6, S6, K6⟩; obtain ⟨⟨⟨r0, r1, r2, r3⟩, rf, _⟩, ⟨⟨s0, s1, s2, s3⟩, sf, _⟩, _⟩ := S6.out))
  all_goals (
    have E6 := Lib.hid (cpE_end (c := c) (k := k) (l := l) (b := b) (v5 := .slice a5 l.length c5) (v6 := .slice a6 b.length c6) ((w6.setCell ⟨w.heap.size, 2, none⟩ (.slice a5 l.length c5)).setCell ⟨w.heap.size, 3, none⟩ (.slice a6 b.length c6)) ((S6.out.2.1.other (by omega) _ _).other (by omega) _ _) ((S6.out.2.2.setCell (Nat.le_refl _) _).setCell (Nat.le_refl _) _) (own_set (own_set (own_kept O5.out K6.out) (by omega)) (by omega)) (own_set (own_set O6.out (by omega)) (by omega)))
    go_wp2
    exact bodyPost_ret (res_box rfl rfl E6.out.1) rfl E6.out.2)
end Go.Proofs.Ytmaeoefimkppoaa.Wd
