/- What Same of package wide, the chapter's Same, and Word of package wide return. -/
import Derived.Test.YtmaeoefimkppoaaVDec
namespace Go.Proofs.Ytmaeoefimkppoaa.Wd
open Go.ChangeShapes Go.WideShapes Go.ChangeAt Go.RowKit
set_option maxRecDepth 1000000

def sameO (a b : Ob) : Bool := decide (a.c = b.c) && decide (a.k = b.k) && decide (a.w = b.w) && decide (a.b = b.b)
theorem sameO_iff (a b : Ob) : sameO a b = true ↔ a = b := by
  obtain ⟨c, k, l, x⟩ := a
  obtain ⟨c', k', l', x'⟩ := b
  simp [sameO, and_assoc]
theorem sameO_self (a : Ob) : sameO a a = true := (sameO_iff a a).2 rfl
def SamePost (a b : Ob) (w : World) (e : Ending) (w' : World) : Prop := e = .returned (.bool (sameO a b)) ∧ Below w.heap.size w w'
theorem bel2 (w : World) (x y : Obj) : Below w.heap.size w ((w.alloc x).alloc y) := ((Below.refl _ _).alloc (Nat.le_refl _) _).alloc (by simp) _

theorem bx_top1 (w : World) (x y z u : Value) (o : Obj) : Bx w.heap.size x y z u ((w.alloc (.cells #[x, y, z, u] 33)).alloc o) :=
  ((box_new w x y z u).kept (B := w.heap.size + 1) ((Below.refl _ _).alloc (by simp) _) (by omega) (by simp)).1
theorem bx_top2 (w : World) (x y z u x' y' z' u' : Value) : Bx (w.heap.size + 1) x y z u ((w.alloc (.cells #[x', y', z', u'] 33)).alloc (.cells #[x, y, z, u] 33)) := by
  have h := (box_new (w.alloc (.cells #[x', y', z', u'] 33)) x y z u).1
  simpa using h

set_option maxHeartbeats 1000000 in
theorem same_ref (v1 v2 : Value) (a b : Ob) (w : World) (h1 : ObjAt w v1 a) (h2 : ObjAt w v2 b) (hs1 : Short a) (hs2 : Short b) :
    Calls Try.prog 25 #[v1, v2] w (SamePost a b w) := by
  obtain ⟨wv1, bv1, rfl, hw1, hb1, _, _⟩ := h1
  obtain ⟨wv2, bv2, rfl, hw2, hb2, _, _⟩ := h2
  have W1 := Lib.hid hw1
  have W2 := Lib.hid hw2
  have Q1 := Lib.hid hb1
  have Q2 := Lib.hid hb2
  obtain ⟨_, _, a1, c1, rfl, _⟩ := hw1
  obtain ⟨_, _, a2, c2, rfl, _⟩ := hw2
  obtain ⟨_, _, a3, c3, rfl, _⟩ := hb1
  obtain ⟨_, _, a4, c4, rfl, _⟩ := hb2
  have HI : Hid (∀ w', Below w.heap.size w w' → Calls Try.prog 20 #[.slice a1 a.w.length c1, .slice a2 b.w.length c2] w' fun e w'' => e = .returned (.bool (decide (a.w = b.w))) ∧ Below w'.heap.size w' w'') := fun w' hb => (sameInts_any _ _ _ _ w' (W1.out.1.kept hb) (W2.out.1.kept hb) hs1.1).mono fun _ _ h => h.below
  have HB : Hid (∀ w', Below w.heap.size w w' → Calls Try.prog 51 #[.slice a3 a.b.length c3, .slice a4 b.b.length c4] w' fun e w'' => e = .returned (.bool (decide (a.b = b.b))) ∧ Below w'.heap.size w' w'') := fun w' hb => (same_any _ _ _ _ w' (Q1.out.1.kept hb) (Q2.out.1.kept hb) Q1.out.2.1 Q2.out.2.1).mono fun _ _ ⟨h1, h2⟩ => ⟨h1, h2 ▸ Below.refl _ _⟩
  obtain ⟨x1, k1, l1, b1⟩ := a
  obtain ⟨x2, k2, l2, b2⟩ := b
  simp only at *
  have HE : Hid (∀ t, t = sameO ⟨x1, k1, l1, b1⟩ ⟨x2, k2, l2, b2⟩ → t = (decide (x1 = x2) && decide (k1 = k2) && decide (l1 = l2) && decide (b1 = b2))) := fun t h => h
  have HS : Hid (sameO ⟨x1, k1, l1, b1⟩ ⟨x2, k2, l2, b2⟩ = (decide (x1 = x2) && decide (k1 = k2) && decide (l1 = l2) && decide (b1 = b2))) := Lib.hid rfl
  clear HE
  by_cases hx : x1 = x2
  · subst hx
    by_cases hk : k1 = k2
    · subst hk
      simp only [decide_true, Bool.true_and] at HS
      cases hl : decide (l1 = l2) with
      | true =>
        rw [hl] at HI HS
        clear hl
        generalize decide (b1 = b2) = t at HB HS
        go_enter Try.func25, Try.ntmps25
        go_wp2_with fail
        refine (HI.out _ (bel2 w _ _)).mono ?_
        rintro e w1 ⟨rfl, hb1⟩
        have d0 := (Bx.kept (p := w.heap.size + 1) (x := .int .i64 x1) (y := .int .i64 k1) (z := .slice a2 l2.length c2) (u := .slice a4 b2.length c4) (bx_top2 w _ _ _ _ _ _ _ _) hb1 (by simp))
        have d1 := (Bx.kept (p := w.heap.size) (x := .int .i64 x1) (y := .int .i64 k1) (z := .slice a1 l1.length c1) (u := .slice a3 b1.length c3) (bx_top1 w _ _ _ _ _) hb1 (by simp; omega))
        obtain ⟨_, _, _, d03⟩ := d0
        obtain ⟨_, _, _, d13⟩ := d1
        have B1 := Lib.hid ((bel2 w _ _).trans (hb1.mono (by simp; omega)))
        clear hb1
        go_wp2_with fail
        refine (HB.out _ B1.out).mono ?_
        rintro e w2 ⟨rfl, hb2⟩
        have B2 := Lib.hid (B1.out.trans (hb2.mono B1.out.size))
        clear hb2 d03 d13
        go_wp2
        go_ret
        exact ⟨ret_b (by rw [HS.out]; simp), B2.out⟩
      | false =>
        rw [hl] at HI HS
        clear hl
        go_enter Try.func25, Try.ntmps25
        go_wp2_with fail
        refine (HI.out _ (bel2 w _ _)).mono ?_
        rintro e w1 ⟨rfl, hb1⟩
        have B1 := Lib.hid ((bel2 w _ _).trans (hb1.mono (by simp; omega)))
        clear hb1
        go_wp2
        go_ret
        exact ⟨ret_b (by rw [HS.out]; simp), B1.out⟩
    · have hq : (k1 == k2) = false := by simpa using hk
      have HS2 := Lib.hid (show false = sameO ⟨x1, k1, l1, b1⟩ ⟨x1, k2, l2, b2⟩ by rw [HS.out]; simp [hk])
      clear hk
      go_enter Try.func25, Try.ntmps25
      go_wp2
      go_ret
      exact ⟨ret_b HS2.out, bel2 w _ _⟩
  · have hq : (x1 == x2) = false := by simpa using hx
    have HS2 := Lib.hid (show false = sameO ⟨x1, k1, l1, b1⟩ ⟨x2, k2, l2, b2⟩ by rw [HS.out]; simp [hx])
    clear hx
    go_enter Try.func25, Try.ntmps25
    go_wp2
    go_ret
    exact ⟨ret_b HS2.out, bel2 w _ _⟩
end Go.Proofs.Ytmaeoefimkppoaa.Wd
