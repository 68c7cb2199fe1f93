/- What the laws' own Copy of an object does: a new object, equal, in blocks of its own. -/
import Derived.Test.YtccpmaahnfgkeaaGreatDoorSGn
namespace Go.Proofs.YtccpmaahnfgkeaaGreatDoor
set_option maxRecDepth 1000000
open Go.ChangeShapes Go.WideShapes Go.ChangeAt Go.RowKit
theorem ints_own {w : World} {base : Nat} {v : Value} {ys : List Int} (h : w.ownsRow base 3 1 v ys.length (ys.map (Value.int .i64))) : Ints (base ≤ ·) w v ys := Vals.of_own (by rw [List.length_map]; exact h)
open Wd (Ob okO encO refsO ObjAt In64 I64)

/-- What Copy tells: an object whose slices lie in new blocks. -/
def RCopy (o : Ob) (w : World) (e : Ending) (w' : World) : Prop :=
  ∃ a1 c1 a2 c2, e = .returned (.agg #[.int .i64 o.c, .int .i64 o.k, .slice a1 o.w.length c1, .slice a2 o.b.length c2]) ∧
    ObjIn (w.heap.size ≤ ·) w' (.agg #[.int .i64 o.c, .int .i64 o.k, .slice a1 o.w.length c1, .slice a2 o.b.length c2]) o ∧ Below w.heap.size w w'

set_option maxHeartbeats 4000000 in
theorem refcopy_any (v : Value) (o : Ob) (w : World) (h : ObjAt w v o) (h1 : o.w.length ≤ 1000000) (h2 : o.b.length ≤ 1000000) : Calls Tryz.prog 31 #[v] w (RCopy o w) := by
  obtain ⟨c, k, l, b⟩ := o
  obtain ⟨wv, bv, rfl, hw, hb, hc, hk⟩ := h
  simp only at *
  have HCK := Lib.hid (And.intro hc hk)
  have W1 := Lib.hid hw
  have B1 := Lib.hid hb
  obtain ⟨_, _, a1, c1, rfl, _⟩ := hw
  obtain ⟨_, _, a2, c2, rfl, _⟩ := hb
  have X1 := Lib.hid ((Wd.box_new w (.int .i64 c) (.int .i64 k) (.slice a1 l.length c1) (.slice a2 b.length c2)).next (w' := (w.alloc (.cells #[.int .i64 c, .int .i64 k, .slice a1 l.length c1, .slice a2 b.length c2] 35)).alloc (.cells #[.int .i64 0, .int .i64 0, .slice none 0 0, .slice none 0 0] 35)) ((Below.refl _ _).alloc (Nat.le_refl _) _))
  have Y1 := Lib.hid (Wd.box_new2 w (.cells #[.int .i64 c, .int .i64 k, .slice a1 l.length c1, .slice a2 b.length c2] 35) (.int .i64 0) (.int .i64 0) (.slice none 0 0) (.slice none 0 0))
  have K1 := Lib.hid (Wd.bel2 w (.cells #[.int .i64 c, .int .i64 k, .slice a1 l.length c1, .slice a2 b.length c2] 35) (.cells #[.int .i64 0, .int .i64 0, .slice none 0 0, .slice none 0 0] 35))
  have HS : Hid (((w.alloc (.cells #[.int .i64 c, .int .i64 k, .slice a1 l.length c1, .slice a2 b.length c2] 35)).alloc (.cells #[.int .i64 0, .int .i64 0, .slice none 0 0, .slice none 0 0] 35)).heap.size = w.heap.size + 2) := Lib.hid (by simp)
  have V1 := Lib.hid (W1.out.1.kept K1.out)
  obtain ⟨⟨x0, x1, x2, x3⟩, xf, _⟩ := X1.out
  have xf2 := xf 2
  have xf3 := xf 3
  clear xf hc hk
  have hsz : w.heap.size + 1 = w.heap.size + 1 := rfl
  go_enter Tryz.func31, Tryz.ntmps31
  go_wp2_with (at_builtin; refine append_ints rfl _ _ rfl (w.heap.size + 2) (.slice none 0 0) [] rfl (World.ownsRow_nil _ _ _ _) _ l rfl V1.out ?c1 ?c2 ?_)
  intro v2 w2 own2 b2
  try rw [List.nil_append] at own2
  have Z2 : Hid (w.heap.size + 2 ≤ w2.heap.size) := Lib.hid (by have := b2.size; have := HS.out; omega)
  have X2 := Lib.hid (X1.out.kept b2 (by omega) (by have := HS.out; omega))
  have Y2 := Lib.hid (Y1.out.kept b2 (by omega) (by have := HS.out; omega))
  have K2 : Hid (Below w.heap.size w w2) := K1.out.trans (b2.mono (by omega))
  obtain ⟨a3, c3, rfl, _⟩ := Wd.own_room own2
  have O3 := Lib.hid (Wd.own_set (q := w.heap.size) (j := 2) (u := .slice a3 l.length c3) own2 (by omega))
  have X3 := Lib.hid (X2.out.put2 (.slice a3 l.length c3))
  have Y3 := Lib.hid (Y2.out.other (g := w.heap.size) (by omega) 2 (.slice a3 l.length c3))
  have K3 := Lib.hid (K2.out.setCell (p := ⟨w.heap.size, 2, none⟩) (Nat.le_refl _) (.slice a3 l.length c3))
  have Z3 : Hid (w.heap.size + 2 ≤ (w2.setCell ⟨w.heap.size, 2, none⟩ (.slice a3 l.length c3)).heap.size) := Lib.hid (by have := Z2.out; simpa [World.setCell] using this)
  clear x0 x1 x2 x3 xf2 xf3 own2 b2
  obtain ⟨⟨x0, x1, x2, x3⟩, xf, _⟩ := X2.out
  have xf2 := xf 2
  have xf3 := xf 3
  have p3 := X3.out.1.2.2.2
  clear xf
  go_wp2_with fail
  refine (Wd.copy_any _ b _ (B1.out.1.kept K3.out) h2).mono ?_
  rintro e w4 ⟨v4, rfl, own4, b4⟩
  have X4 := Lib.hid (X3.out.next b4)
  have Y4 := Lib.hid (Y3.out.next b4)
  have K4 : Hid (Below w.heap.size w w4) := K3.out.trans (b4.mono K3.out.size)
  have O4 := Lib.hid (Wd.own_kept O3.out b4)
  have Q4 : Hid (w4.ownsRow (w.heap.size + 2) 5 1 v4 b.length (b.map (Value.int .u8))) := Wd.own_down own4 Z3.out
  obtain ⟨a4, c4, rfl, _⟩ := Wd.own_room own4
  clear x0 x1 x2 x3 xf2 xf3 p3 own4 b4
  have X5 := Lib.hid (X4.out.put3 (.slice a4 b.length c4))
  obtain ⟨⟨y0, y1, y2, y3⟩, yf, _⟩ := Y4.out
  obtain ⟨⟨x0, x1, x2, x3⟩, xf, _⟩ := X4.out
  have xf3 := xf 3
  have yf0 := yf 0
  have yf1 := yf 1
  have yf2 := yf 2
  have yf3 := yf 3
  clear xf yf
  go_wp2_with fail
  have Y6 := ((Y4.out.other (g := w.heap.size) (by omega) 3 (.slice a4 b.length c4)).put (.int .i64 c) (.int .i64 k) (.slice a3 l.length c3) (.slice a4 b.length c4))
  have K6 := Wd.put_below (x := .int .i64 c) (y := .int .i64 k) (z := .slice a3 l.length c3) (u := .slice a4 b.length c4) (K4.out.setCell (p := ⟨w.heap.size, 3, none⟩) (Nat.le_refl _) (.slice a4 b.length c4)) (p := w.heap.size + 1) (by omega)
  have O6 := fun x y z u => Wd.own_set (q := w.heap.size + 1) (j := 3) (u := u) (Wd.own_set (q := w.heap.size + 1) (j := 2) (u := z) (Wd.own_set (q := w.heap.size + 1) (j := 1) (u := y) (Wd.own_set (q := w.heap.size + 1) (j := 0) (u := x) (Wd.own_set (q := w.heap.size) (j := 3) (u := .slice a4 b.length c4) O4.out (by omega)) (by omega)) (by omega)) (by omega)) (by omega)
  have Q6 := fun x y z u => Wd.own_set (q := w.heap.size + 1) (j := 3) (u := u) (Wd.own_set (q := w.heap.size + 1) (j := 2) (u := z) (Wd.own_set (q := w.heap.size + 1) (j := 1) (u := y) (Wd.own_set (q := w.heap.size + 1) (j := 0) (u := x) (Wd.own_set (q := w.heap.size) (j := 3) (u := .slice a4 b.length c4) Q4.out (by omega)) (by omega)) (by omega)) (by omega)) (by omega)
  exact bodyPost_ret (Wd.res_box rfl rfl Y6) rfl ⟨a3, c3, a4, c4, rfl, ⟨_, _, rfl, Vals.kind (ints_own (O6 _ _ _ _)) (fun b _ h => by omega), W1.out.2.1, Vals.kind (Vals.of_own (by rw [List.length_map]; exact Q6 _ _ _ _)) (fun b _ h => by omega), B1.out.2.1, HCK.out⟩, K6⟩
end Go.Proofs.YtccpmaahnfgkeaaGreatDoor
