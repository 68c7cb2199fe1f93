/- The walk of the law WideRefs, its parts: an object that may be, one that may not. -/
import Derived.Test.YtbkojjbigilclaaLwRa
import Derived.Deep.RegionWith
namespace Go.Proofs.Ytbkojjbigilclaa
open Go.ChangeShapes Go.WideShapes Go.ChangeAt Go.RowKit
set_option maxRecDepth 1000000

set_option maxHeartbeats 2000000 in
theorem refs_bad (w : World) (c k : Int) (l b : List Int) (a1 a2 : Option Addr) (c1 c2 : Nat) (hb0 : ObjAt w (.agg #[.int .i64 c, .int .i64 k, .slice a1 l.length c1, .slice a2 b.length c2]) ⟨c, k, l, b⟩) (hl : longO ⟨c, k, l, b⟩ = false) (hok : okO ⟨c, k, l, b⟩ = false) :
    Calls Try.prog 9 #[.agg #[.int .i64 c, .int .i64 k, .slice a1 l.length c1, .slice a2 b.length c2]] w fun e w' => e = .returned (.bool true) ∧ Below w.heap.size w w' := by
  have HO := Lib.hid hb0
  have HL : Hid (∀ w', Below w.heap.size w w' → Calls Try.prog 11 #[.agg #[.int .i64 c, .int .i64 k, .slice a1 l.length c1, .slice a2 b.length c2]] w' fun e w'' => e = .returned (.bool false) ∧ Below w'.heap.size w' w'') := fun w' h => (long_any _ _ w' (hb0.kept h)).mono fun _ _ h => by rw [hl] at h; exact h
  have hs := short_of hl
  have hc64 : In64 c := by obtain ⟨_, _, he, _, _, h, _⟩ := hb0; exact h
  have HA := Lib.hid (Seen.start w c k (.slice a1 l.length c1) (.slice a2 b.length c2))
  have HP : Hid (∀ w', Below w.heap.size w w' → Calls Try.prog 23 #[.agg #[.int .i64 c, .int .i64 k, .slice a1 l.length c1, .slice a2 b.length c2]] w' (GaveI (refsO ⟨c, k, l, b⟩) w')) := fun w' h => refs_any _ _ w' (hb0.kept h) hs.1
  have HR : Hid (∀ w', Below w.heap.size w w' → Calls Try.prog 24 #[.agg #[.int .i64 c, .int .i64 k, .slice a1 l.length c1, .slice a2 b.length c2]] w' (GotI (refsO ⟨c, k, l, b⟩) w')) := fun w' h => (refrefs_any _ _ w' (hb0.kept h) hs.1).mono fun _ _ ⟨v, he, ho, hb⟩ => ⟨v, he, own_ints ho, hb⟩
  have HLN := Lib.hid (show (refsO ⟨c, k, l, b⟩).length ≤ 1201 by have h2 := refsL_len (c :: l); simp only [List.length_cons] at h2; show (refsL (c :: l)).length ≤ 1201; have := hs.1; simp only at this; omega)
  have HC : Hid (∀ w', Below w.heap.size w w' → Calls Try.prog 18 #[.agg #[.int .i64 c, .int .i64 k, .slice a1 l.length c1, .slice a2 b.length c2]] w' fun e w'' => e = .returned (.int .i64 2) ∧ Below w'.heap.size w' w'') := fun w' h => (check_all _ _ w' (hb0.kept h)).mono fun _ _ h => by obtain ⟨h1, h2⟩ := h; rw [chk_not hok] at h1; exact ⟨h1, h2⟩
  obtain ⟨t2, ht2⟩ : ∃ t : Int, t = 2 := ⟨2, rfl⟩
  have qt : (t2 != 0) = true := by rw [ht2]; decide
  rw [← ht2] at HC
  clear ht2
  have HN : Hid (∀ w', Calls Try.prog 12 #[] w' fun e w'' => e = .returned (.bool true) ∧ Below w'.heap.size w' w'') := known_true
  clear hs hl hok hb0 hc64
  generalize refsO ⟨c, k, l, b⟩ = rs at *
  go_enter Try.func9, Try.ntmps9
  go_wp2_with fail
  refine (HL.out _ HA.out.2.2.2.2.out).mono ?_
  rintro e w1 ⟨rfl, hb1⟩
  obtain ⟨b0, b1, b2, b3, b4⟩ := HA.out.kept hb1
  clear hb1
  go_wp2_with fail
  refine (HP.out _ b4.out).mono ?_
  rintro e w2 ⟨v2, rfl, ho2, hb2⟩
  have R2 := Lib.hid (own_ints ho2)
  obtain ⟨av, cv, rfl, _⟩ := own_room ho2
  obtain ⟨d0, d1, d2, d3, d4⟩ := Seen.kept ⟨b0, b1, b2, b3, b4⟩ hb2
  clear b0 b1 b2 b3 b4 hb2 ho2
  have HS : Hid (∀ w' v', (w'.cell? ⟨w.heap.size, 0, none⟩ = some (.int .i64 c) ∧ w'.cell? ⟨w.heap.size, 1, none⟩ = some (.int .i64 k) ∧ w'.cell? ⟨w.heap.size, 2, none⟩ = some (.slice a1 l.length c1) ∧ w'.cell? ⟨w.heap.size, 3, none⟩ = some (.slice a2 b.length c2) ∧ Hid (Below w.heap.size w w' ∧ Ints w' (.slice av rs.length cv) rs)) → Ints w' v' rs → Calls Try.prog 22 #[(.slice av rs.length cv), v'] w' fun e w'' => e = .returned (.bool true) ∧ Below w'.heap.size w' w'') := fun w' v' h h2 => (sameInts_any _ _ _ _ w' (h.2.2.2.2).out.2 h2 (by have := HLN.out; omega)).mono fun _ _ h => by have := h.below; rw [decide_eq_true rfl] at this; exact this
  have HR2 : Hid (∀ w', (w'.cell? ⟨w.heap.size, 0, none⟩ = some (.int .i64 c) ∧ w'.cell? ⟨w.heap.size, 1, none⟩ = some (.int .i64 k) ∧ w'.cell? ⟨w.heap.size, 2, none⟩ = some (.slice a1 l.length c1) ∧ w'.cell? ⟨w.heap.size, 3, none⟩ = some (.slice a2 b.length c2) ∧ Hid (Below w.heap.size w w' ∧ Ints w' (.slice av rs.length cv) rs)) → Calls Try.prog 24 #[.agg #[.int .i64 c, .int .i64 k, .slice a1 l.length c1, .slice a2 b.length c2]] w' (GotI rs w')) := fun w' h => HR.out w' (h.2.2.2.2).out.1
  have HC2 : Hid (∀ w', (w'.cell? ⟨w.heap.size, 0, none⟩ = some (.int .i64 c) ∧ w'.cell? ⟨w.heap.size, 1, none⟩ = some (.int .i64 k) ∧ w'.cell? ⟨w.heap.size, 2, none⟩ = some (.slice a1 l.length c1) ∧ w'.cell? ⟨w.heap.size, 3, none⟩ = some (.slice a2 b.length c2) ∧ Hid (Below w.heap.size w w' ∧ Ints w' (.slice av rs.length cv) rs)) → Calls Try.prog 18 #[.agg #[.int .i64 c, .int .i64 k, .slice a1 l.length c1, .slice a2 b.length c2]] w' fun e w'' => e = .returned (.int .i64 t2) ∧ Below w'.heap.size w' w'') := fun w' h => HC.out w' (h.2.2.2.2).out.1
  have HK : Hid (∀ wa wb : World, Below wa.heap.size wa wb → (wa.cell? ⟨w.heap.size, 0, none⟩ = some (.int .i64 c) ∧ wa.cell? ⟨w.heap.size, 1, none⟩ = some (.int .i64 k) ∧ wa.cell? ⟨w.heap.size, 2, none⟩ = some (.slice a1 l.length c1) ∧ wa.cell? ⟨w.heap.size, 3, none⟩ = some (.slice a2 b.length c2) ∧ Hid (Below w.heap.size w wa ∧ Ints wa (.slice av rs.length cv) rs)) → (wb.cell? ⟨w.heap.size, 0, none⟩ = some (.int .i64 c) ∧ wb.cell? ⟨w.heap.size, 1, none⟩ = some (.int .i64 k) ∧ wb.cell? ⟨w.heap.size, 2, none⟩ = some (.slice a1 l.length c1) ∧ wb.cell? ⟨w.heap.size, 3, none⟩ = some (.slice a2 b.length c2) ∧ Hid (Below w.heap.size w wb ∧ Ints wb (.slice av rs.length cv) rs))) := fun wa wb hb h => ⟨cell_next h.1 hb, cell_next h.2.1 hb, cell_next h.2.2.1 hb, cell_next h.2.2.2.1 hb, h.2.2.2.2.out.1.trans (hb.mono h.2.2.2.2.out.1.size), h.2.2.2.2.out.2.kept hb⟩
  have S2 : w2.drew.cell? ⟨w.heap.size, 0, none⟩ = some (.int .i64 c) ∧ w2.drew.cell? ⟨w.heap.size, 1, none⟩ = some (.int .i64 k) ∧ w2.drew.cell? ⟨w.heap.size, 2, none⟩ = some (.slice a1 l.length c1) ∧ w2.drew.cell? ⟨w.heap.size, 3, none⟩ = some (.slice a2 b.length c2) ∧ Hid (Below w.heap.size w w2.drew ∧ Ints w2.drew (.slice av rs.length cv) rs) := ⟨d0, d1, d2, d3, d4.out.trans (below_drewN _ _ 1), R2.out.kept (below_drewN _ _ 1)⟩
  clear HP HR HC HL
  go_wp2
  have S2' := S2
  obtain ⟨s0, s1, s2, s3, s4⟩ := S2'
  clear d0 d1 d2 d3
  have hu : undef = Value.tuple #[] := rfl
  first | (go_region_with (first | (go_at_call 24; refine (HR2.out _ S2).mono ?_; rintro e w5 ⟨v5, rfl, hv5, hb5⟩; have S5 := Lib.hid (HK.out _ _ hb5 S2); obtain ⟨t0, t1, t2, t3, _⟩ := S5.out) | (go_at_call 22; refine (HS.out _ _ S5.out hv5).mono ?_; rintro e w6 ⟨rfl, hb6⟩; have S6 := Lib.hid (HK.out _ _ hb6 S5.out); obtain ⟨r0, r1, r2, r3, _⟩ := S6.out) | (go_at_call 18; refine (HC2.out _ S6.out).mono ?_; rintro e w7 ⟨rfl, hb7⟩) | (go_at_call 12; refine (HN.out _).mono ?_; rintro e w8 ⟨rfl, hb8⟩))) | fail "none"
  all_goals (
    have B4 : Below w.heap.size w w2.drew := d4.out.trans (below_drewN _ _ 1)
    have B5 : Below w.heap.size w w5 := B4.trans (hb5.mono B4.size)
    have B6 : Below w.heap.size w w6 := B5.trans (hb6.mono B5.size)
    have B7 : Below w.heap.size w w7 := B6.trans (hb7.mono B6.size)
    have B8 := Lib.hid (B7.trans (hb8.mono B7.size))
    clear hb5 hb6 hb7 hb8 B5 B6 B7 B4
    go_wp2
    go_ret
    exact ⟨rfl, B8.out⟩)
end Go.Proofs.Ytbkojjbigilclaa
