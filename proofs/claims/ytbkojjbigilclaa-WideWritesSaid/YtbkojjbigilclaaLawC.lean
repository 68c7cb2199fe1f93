/- The walk of the law WideCheck: it returns true for every object. -/
import Derived.Test.YtbkojjbigilclaaOpn
import Derived.Deep.RegionHeld3
namespace Go.Proofs.Ytbkojjbigilclaa
open Go.ChangeShapes Go.WideShapes Go.ChangeAt Go.RowKit
set_option maxRecDepth 1000000

/-- The box of an argument, and that nothing older has changed. -/
abbrev Seen (w : World) (p : Nat) (x y : Int) (z u : Value) (w' : World) : Prop :=
  w'.cell? ⟨p, 0, none⟩ = some (.int .i64 x) ∧ w'.cell? ⟨p, 1, none⟩ = some (.int .i64 y) ∧ w'.cell? ⟨p, 2, none⟩ = some z ∧ w'.cell? ⟨p, 3, none⟩ = some u ∧ Hid (Below w.heap.size w w')
theorem Seen.kept {w wa wb : World} {p : Nat} {x y : Int} {z u : Value} (h : Seen w p x y z u wa) (hb : Below wa.heap.size wa wb) : Seen w p x y z u wb := by
  obtain ⟨h1, h2, h3, h4, h5⟩ := h
  exact ⟨(hb.cell (World.block_lt_of_cell? _ _ h1)).trans h1, (hb.cell (World.block_lt_of_cell? _ _ h2)).trans h2, (hb.cell (World.block_lt_of_cell? _ _ h3)).trans h3, (hb.cell (World.block_lt_of_cell? _ _ h4)).trans h4, h5.out.trans (hb.mono h5.out.size)⟩
theorem Seen.start (w : World) (x y : Int) (z u : Value) : Seen w w.heap.size x y z u (w.alloc (.cells #[.int .i64 x, .int .i64 y, z, u] 25)) := by
  obtain ⟨h1, h2, h3, h4⟩ := (box_new w (.int .i64 x) (.int .i64 y) z u).1
  exact ⟨h1, h2, h3, h4, (Below.refl _ _).alloc (Nat.le_refl _) _⟩
theorem short_of {o : Ob} (h : longO o = false) : o.w.length ≤ 1200 ∧ o.b.length ≤ 1200 := by
  have := of_decide_eq_false h
  omega
theorem short_of' {o : Ob} (h : longO o = false) : Short o := ⟨by have := short_of h; omega, by have := short_of h; omega⟩

set_option maxHeartbeats 2000000 in
theorem wideCheck_walk (w : World) (v0 : Value) (x0 : Ob) (hb0 : ObjAt w v0 x0) (_ : x0.w.length ≤ maxLen ∧ x0.b.length ≤ maxLen) :
    Calls Try.prog 6 #[v0] w fun e w' => e = .returned (.bool true) ∧ Below w.heap.size w w' := by
  have HO := Lib.hid hb0
  have HL := Lib.hid (fun (w' : World) (h : Below w.heap.size w w') => long_any v0 x0 w' (hb0.kept h))
  obtain ⟨wv, bv, rfl, ⟨_, _, a1, c1, rfl, _⟩, ⟨_, _, a2, c2, rfl, _⟩, _, _⟩ := hb0
  obtain ⟨c, k, l, b⟩ := x0
  simp only at *
  have HA := Lib.hid (Seen.start w c k (.slice a1 l.length c1) (.slice a2 b.length c2))
  cases hl : longO ⟨c, k, l, b⟩ with
  | true =>
    rw [hl] at HL
    clear hl
    go_enter Try.func6, Try.ntmps6
    go_wp2_with fail
    refine (HL.out _ HA.out.2.2.2.2.out).mono ?_
    rintro e w1 ⟨rfl, hb1⟩
    have B1 := (HA.out.kept hb1).2.2.2.2
    clear hb1
    go_wp2_with fail
    refine (known_true _).mono ?_
    rintro e w2 ⟨rfl, hb2⟩
    have B2 := Lib.hid (B1.out.trans (hb2.mono B1.out.size))
    clear hb2
    go_wp2
    go_ret
    exact ⟨rfl, B2.out⟩
  | false =>
    rw [hl] at HL
    have hs := short_of' hl
    obtain ⟨t, ht⟩ : ∃ t, t = chk ⟨c, k, l, b⟩ := ⟨_, rfl⟩
    have HC : Hid (∀ w', Seen w w.heap.size c k (.slice a1 l.length c1) (.slice a2 b.length c2) w' → Calls Try.prog 18 #[.agg #[.int .i64 c, .int .i64 k, .slice a1 l.length c1, .slice a2 b.length c2]] w' fun e w'' => e = .returned (.int .i64 t) ∧ Below w'.heap.size w' w'') := fun w' h => (check_any _ _ w' (HO.out.kept h.2.2.2.2.out) hs).mono fun _ _ h => by rw [ht]; exact h
    have HR : Hid (∀ w', Seen w w.heap.size c k (.slice a1 l.length c1) (.slice a2 b.length c2) w' → Calls Try.prog 19 #[.agg #[.int .i64 c, .int .i64 k, .slice a1 l.length c1, .slice a2 b.length c2]] w' fun e w'' => e = .returned (.int .i64 t) ∧ Below w'.heap.size w' w'') := fun w' h => (refcheck_any _ _ w' (HO.out.kept h.2.2.2.2.out) hs).mono fun _ _ h => by rw [ht]; exact h
    clear hl hs ht
    go_enter Try.func6, Try.ntmps6
    go_wp2_with fail
    refine (HL.out _ HA.out.2.2.2.2.out).mono ?_
    rintro e w1 ⟨rfl, hb1⟩
    have S1 := HA.out.kept hb1
    have S2 := S1.kept (below_drewN _ _ 1)
    clear hb1
    have HN : Hid (∀ w', Calls Try.prog 12 #[] w' fun e w'' => e = .returned (.bool true) ∧ Below w'.heap.size w' w'') := known_true
    generalize hp : w.heap.size = p at S2 HC HR
    have HK : Hid (∀ wa wb : World, Below wa.heap.size wa wb → (wa.cell? ⟨p, 0, none⟩ = some (.int .i64 c) ∧ wa.cell? ⟨p, 1, none⟩ = some (.int .i64 k) ∧ wa.cell? ⟨p, 2, none⟩ = some (.slice a1 l.length c1) ∧ wa.cell? ⟨p, 3, none⟩ = some (.slice a2 b.length c2) ∧ Hid (Below w.heap.size w wa)) → (wb.cell? ⟨p, 0, none⟩ = some (.int .i64 c) ∧ wb.cell? ⟨p, 1, none⟩ = some (.int .i64 k) ∧ wb.cell? ⟨p, 2, none⟩ = some (.slice a1 l.length c1) ∧ wb.cell? ⟨p, 3, none⟩ = some (.slice a2 b.length c2) ∧ Hid (Below w.heap.size w wb))) := fun wa wb hb h => Seen.kept h hb
    have b5 : Hid (Below w.heap.size w w1.drew) := S2.2.2.2.2
    obtain ⟨b0, b1, b2, b3, b4⟩ := S1
    rw [hp] at b0 b1 b2 b3
    clear hp
    go_wp2
    go_region_held3 (fun w' => w'.cell? ⟨p, 0, none⟩ = some (.int .i64 c) ∧ w'.cell? ⟨p, 1, none⟩ = some (.int .i64 k) ∧ w'.cell? ⟨p, 2, none⟩ = some (.slice a1 l.length c1) ∧ w'.cell? ⟨p, 3, none⟩ = some (.slice a2 b.length c2) ∧ Hid (Below w.heap.size w w')) (first | (exact S2) | go_keep | (refine HK.out _ _ hb5 ?_; assumption) | (refine HK.out _ _ hb6 ?_; assumption) | (refine HK.out _ _ hb7 ?_; assumption)) (first | (go_at_call 18; refine (HC.out _ (by assumption)).mono ?_; rintro e w5 ⟨rfl, hb5⟩) | (go_at_call 19; refine (HR.out _ (by assumption)).mono ?_; rintro e w6 ⟨rfl, hb6⟩) | (go_at_call 12; refine (HN.out _).mono ?_; rintro e w7 ⟨rfl, hb7⟩))
    have B5 : Below w.heap.size w w5 := b5.out.trans (hb5.mono b5.out.size)
    have B6 : Below w.heap.size w w6 := B5.trans (hb6.mono B5.size)
    have B7 := Lib.hid (B6.trans (hb7.mono B6.size))
    clear hb5 hb6 hb7 B5 B6
    go_wp2
    go_ret
    exact ⟨rfl, B7.out⟩
end Go.Proofs.Ytbkojjbigilclaa
