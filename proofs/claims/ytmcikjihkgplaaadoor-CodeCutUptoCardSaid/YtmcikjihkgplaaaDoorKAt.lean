/- The document's At: what is told at a place. -/
import Derived.Test.YtmcikjihkgplaaaDoorKOp
import Derived.Deep.RegionHeld3
import Derived.Deep.DeepCutAuto
import Derived.Deep.CutRange
import Derived.StillTailTactics
namespace Go.Proofs.YtmcikjihkgplaaaDoor
set_option maxRecDepth 1000000
open Go.ChangeShapes Go.WideShapes Go.ChangeAt Go.RowKit

theorem put_belowP {B : Nat} {w w' : World} {x y z u : Value} (h : Below B w w') {p : Nat} (hp : B ≤ p) : Below B w ((((w'.setCell ⟨p, 0, none⟩ x).setCell ⟨p, 1, none⟩ y).setCell ⟨p, 2, none⟩ z).setCell ⟨p, 3, none⟩ u) :=
  (((h.setCell hp _).setCell hp _).setCell hp _).setCell hp _
theorem below_drewN (b : Nat) (w : World) (n : Nat) : Below b w (w.drewN n) := ⟨rfl, rfl, rfl, Nat.le_refl _, fun _ _ => rfl⟩
theorem byt_rng {bs : List Int} (h : Bytes bs) (i : Nat) : 0 ≤ byt bs i ∧ byt bs i ≤ 255 := by
  unfold byt
  rw [List.getD]
  cases e : bs[i]? with
  | none => simp
  | some n => exact h n (List.mem_of_getElem? e)
theorem Bts.byt_at {N : Nat → Prop} {w : World} {v : Value} {bs : List Int} (h : Bts N w v bs) (h0 : 0 < bs.length) :
    ∃ b off c, v = .slice (some ⟨b, off, none⟩) bs.length c ∧ b < w.heap.size ∧ ∀ i, i < bs.length → w.cell? ⟨b, off + i, none⟩ = some (.int .u8 (byt bs i)) := by
  obtain ⟨a, c, rfl, hc, h⟩ := h
  rw [List.length_map]
  rcases h with h | ⟨b, off, rfl, hb, h⟩
  · rw [List.map_eq_nil_iff] at h; subst h; cases h0
  · have hc : ∀ i, i < bs.length → w.cell? ⟨b, off + i, none⟩ = some (.int .u8 (byt bs i)) := fun i hi => h i _ (by rw [List.getElem?_map, List.getElem?_eq_getElem hi, byt, List.getD, List.getElem?_eq_getElem hi]; rfl)
    exact ⟨b, off, c, rfl, World.block_lt_of_cell? _ _ (hc 0 h0), hc⟩
def AtPost (bs : List Int) (a : Int) (w : World) (e : Ending) (w' : World) : Prop :=
  e = .returned (.tuple #[.agg #[.int .i64 (atO bs a).k, .int .i64 (atO bs a).n, .int .i64 (atO bs a).m, .int .i64 (atO bs a).l], .int .i64 (atE bs a)]) ∧ Below w.heap.size w w'
theorem at_out {bs : List Int} {a : Int} (h : a < 0 ∨ (bs.length : Int) ≤ a) : atE bs a = 4 ∧ atO bs a = zeroO := by
  have h1 : atE bs a = 4 := by unfold atE; rw [if_pos h]
  exact ⟨h1, by unfold atO; rw [if_neg (by rw [h1]; decide)]⟩
theorem at_short {bs : List Int} {i : Nat} (h : i < bs.length) (h2 : (bs.length : Int) - i < longN (byt bs i)) : atE bs i = 5 ∧ atO bs i = zeroO := by
  have h1 : atE bs i = 5 := by unfold atE; rw [if_neg (by omega), if_pos (by simpa using h2)]
  exact ⟨h1, by unfold atO; rw [if_neg (by rw [h1]; decide)]⟩
theorem at_in {bs : List Int} {i : Nat} (h : i < bs.length) (h2 : ¬ (bs.length : Int) - i < longN (byt bs i)) : atE bs i = 0 ∧ atO bs i = tellO (byt bs i) (byt bs (i + 1)) (byt bs (i + 2)) := by
  have h1 : atE bs i = 0 := by unfold atE; rw [if_neg (by omega), if_neg (by simpa using h2)]
  exact ⟨h1, by unfold atO; rw [if_pos h1]; simp⟩

set_option maxHeartbeats 4000000 in
theorem at_ref {N : Nat → Prop} (v : Value) (bs : List Int) (a : Int) (w : World) (hv : Bts N w v bs) (hb : Bytes bs) (hl : bs.length ≤ 1000000000000000) (ha : -9223372036854775808 ≤ a ∧ a ≤ 9223372036854775807) :
    Calls Tryd.prog 13 #[v, .int .i64 a] w (AtPost bs a w) := by
  unfold AtPost
  obtain ⟨ln, hln⟩ : ∃ n, bs.length = n := ⟨_, rfl⟩
  by_cases hout : a < 0 ∨ (bs.length : Int) ≤ a
  · rw [(at_out hout).1, (at_out hout).2]
    obtain ⟨va, c, rfl, _⟩ := Bts.form hv
    rw [hln] at hout ⊢
    clear hv hln hl hb
    obtain ⟨ha1, ha2⟩ := ha
    have d : a < 0 ∨ (¬ a < 0 ∧ (ln : Int) ≤ a) := by omega
    clear hout
    rcases d with d | ⟨d, d'⟩
    · go_enter Tryd.func13, Tryd.ntmps13
      go_wp2
      refine bodyPost_ret (res_box2 rfl rfl (box_new _ _ _ _ _)) rfl ?_
      exact ⟨rfl, below_new _ _⟩
    · go_enter Tryd.func13, Tryd.ntmps13
      go_wp2
      refine bodyPost_ret (res_box2 rfl rfl (box_new _ _ _ _ _)) rfl ?_
      exact ⟨rfl, below_new _ _⟩
  · obtain ⟨i, rfl⟩ := Int.eq_ofNat_of_zero_le (show 0 ≤ a by omega)
    have hi : i < bs.length := by omega
    obtain ⟨b, off, cp, rfl, hbl, hc⟩ := hv.byt_at (by omega)
    have HC : Hid (∀ w', Below w.heap.size w w' → ∀ j, j < ln → w'.cell? ⟨b, off + j, none⟩ = some (.int .u8 (byt bs j))) := Lib.hid fun w' hb j hj => (hb.cell (p := ⟨b, off + j, none⟩) hbl).trans (hc j (by omega))
    obtain ⟨c0, c1⟩ := byt_rng hb i
    obtain ⟨n0, n1⟩ := byt_rng hb (i + 1)
    obtain ⟨m0, m1⟩ := byt_rng hb (i + 2)
    have hsz : w.heap.size ≤ w.heap.size := Nat.le_refl _
    by_cases hs : (bs.length : Int) - i < longN (byt bs i)
    · rw [(at_short hi hs).1, (at_short hi hs).2]
      rw [hln] at hi hs hl ⊢
      have HL := Lib.hid (fun w' => long_ref (byt bs i) w' c0 c1)
      have hk := longN_rng (byt bs i)
      have hil : (i : Int) < ln := by omega
      have hi0 : (0 : Int) ≤ i := by omega
      generalize longN (byt bs i) = k at *
      clear hv hc hb ha hout hln n0 n1 m0 m1
      go_enter Tryd.func13, Tryd.ntmps13
      go_upto_region 1 with fail
      have B1 := Lib.hid (box_new w (.int .i64 0) (.int .i64 0) (.int .i64 0) (.int .i64 0))
      have K1 := Lib.hid (below_new w (.cells #[.int .i64 0, .int .i64 0, .int .i64 0, .int .i64 0] 25))
      generalize w.alloc (.cells #[.int .i64 0, .int .i64 0, .int .i64 0, .int .i64 0] 25) = w1 at *
      have q0 := HC.out _ K1.out i hi
      obtain ⟨⟨p0, p1, p2, p3⟩, pf, _⟩ := B1.out
      go_wp2_with (go_at_call 24; refine (HL.out _).mono ?_; rintro e w2 ⟨rfl, rfl⟩)
      refine bodyPost_ret (res_box2 rfl rfl (B1.out.put _ _ _ _)) rfl ?_
      exact ⟨rfl, put_belowP K1.out (Nat.le_refl _)⟩
    · rw [(at_in hi hs).1, (at_in hi hs).2]
      rw [hln] at hi hs hl ⊢
      have HL := Lib.hid (fun w' => long_ref (byt bs i) w' c0 c1)
      have HS := Lib.hid (fun w' => short_ref (byt bs i) w' c0 c1)
      have HW := Lib.hid (fun w' => wide_ref (byt bs i) (byt bs (i + 1)) (byt bs (i + 2)) w' c0 c1 n0 n1 m0 m1)
      have HW0 := Lib.hid (fun w' => wide_ref (byt bs i) (byt bs (i + 1)) 0 w' c0 c1 n0 n1 (by decide) (by decide))
      have hk := longN_rng (byt bs i)
      have hil : (i : Int) < ln := by omega
      have hi0 : (0 : Int) ≤ i := by omega
      clear hv hc hb ha hout hln
      unfold tellO
      generalize shortO (byt bs i) = so at *
      generalize wideO (byt bs i) (byt bs (i + 1)) (byt bs (i + 2)) = wo at *
      generalize wideO (byt bs i) (byt bs (i + 1)) 0 = wo0 at *
      rcases hk with hk | hk | hk
      · rw [hk] at hs HL
        simp only [hk, if_true, show ((2 : Int) = 1) = False by decide, show ((3 : Int) = 1) = False by decide, show ((3 : Int) = 2) = False by decide, if_false]
        clear HW HW0 n0 n1 m0 m1
        go_enter Tryd.func13, Tryd.ntmps13
        go_upto_region 1 with fail
        have B1 := Lib.hid (box_new w (.int .i64 0) (.int .i64 0) (.int .i64 0) (.int .i64 0))
        have K1 := Lib.hid (below_new w (.cells #[.int .i64 0, .int .i64 0, .int .i64 0, .int .i64 0] 25))
        generalize w.alloc (.cells #[.int .i64 0, .int .i64 0, .int .i64 0, .int .i64 0] 25) = w1 at *
        have q0 := HC.out _ K1.out i hi
        go_upto_region 8 with (first | (go_at_call 24; refine (HL.out _).mono ?_; rintro e w2 ⟨rfl, rfl⟩) | (go_at_call 25; refine (HS.out _).mono ?_; rintro e w2 ⟨rfl, hb2⟩))
        have B3 := Lib.hid (box_new w2 (.int .i64 so.k) (.int .i64 so.n) (.int .i64 so.m) (.int .i64 so.l))
        have B2 := Lib.hid ((B1.out.next hb2).next (below_new w2 (.cells #[.int .i64 so.k, .int .i64 so.n, .int .i64 so.m, .int .i64 so.l] 25)))
        have K2 := Lib.hid ((K1.out.trans (hb2.mono K1.out.size)).alloc (Nat.le_trans K1.out.size hb2.size) (.cells #[.int .i64 so.k, .int .i64 so.n, .int .i64 so.m, .int .i64 so.l] 25))
        have hne : w.heap.size ≠ w2.heap.size := Nat.ne_of_lt (Nat.lt_of_lt_of_le B1.out.2.2 hb2.size)
        generalize w2.alloc (.cells #[.int .i64 so.k, .int .i64 so.n, .int .i64 so.m, .int .i64 so.l] 25) = w3 at *
        have hle : w.heap.size ≤ w2.heap.size := Nat.le_trans K1.out.size hb2.size
        generalize w2.heap.size = g at *
        clear hb2
        obtain ⟨⟨p0, p1, p2, p3⟩, pf, _⟩ := B2.out
        obtain ⟨⟨g0, g1, g2, g3⟩, gf, _⟩ := B3.out
        go_wp2_with fail
        refine bodyPost_ret (res_box2 rfl rfl ((B2.out.other hne 3 _).put _ _ _ _)) rfl ?_
        exact ⟨rfl, put_belowO (K2.out.setCell hle _) (Nat.le_refl _)⟩
      · rw [hk] at hs HL
        simp only [hk, if_true, show ((2 : Int) = 1) = False by decide, show ((3 : Int) = 1) = False by decide, show ((3 : Int) = 2) = False by decide, if_false]
        clear HW m0 m1
        go_enter Tryd.func13, Tryd.ntmps13
        go_upto_region 1 with fail
        have B1 := Lib.hid (box_new w (.int .i64 0) (.int .i64 0) (.int .i64 0) (.int .i64 0))
        have K1 := Lib.hid (below_new w (.cells #[.int .i64 0, .int .i64 0, .int .i64 0, .int .i64 0] 25))
        generalize w.alloc (.cells #[.int .i64 0, .int .i64 0, .int .i64 0, .int .i64 0] 25) = w1 at *
        have q0 := HC.out _ K1.out i hi
        go_upto_region 8 with (first | (go_at_call 24; refine (HL.out _).mono ?_; rintro e w2 ⟨rfl, rfl⟩) | (go_at_call 25; refine (HS.out _).mono ?_; rintro e w2 ⟨rfl, hb2⟩))
        have B3 := Lib.hid (box_new w2 (.int .i64 so.k) (.int .i64 so.n) (.int .i64 so.m) (.int .i64 so.l))
        have B2 := Lib.hid ((B1.out.next hb2).next (below_new w2 (.cells #[.int .i64 so.k, .int .i64 so.n, .int .i64 so.m, .int .i64 so.l] 25)))
        have K2 := Lib.hid ((K1.out.trans (hb2.mono K1.out.size)).alloc (Nat.le_trans K1.out.size hb2.size) (.cells #[.int .i64 so.k, .int .i64 so.n, .int .i64 so.m, .int .i64 so.l] 25))
        have hne : w.heap.size ≠ w2.heap.size := Nat.ne_of_lt (Nat.lt_of_lt_of_le B1.out.2.2 hb2.size)
        generalize w2.alloc (.cells #[.int .i64 so.k, .int .i64 so.n, .int .i64 so.m, .int .i64 so.l] 25) = w3 at *
        have hle : w.heap.size ≤ w2.heap.size := Nat.le_trans K1.out.size hb2.size
        generalize w2.heap.size = g at *
        clear hb2
        obtain ⟨⟨p0, p1, p2, p3⟩, pf, _⟩ := B2.out
        obtain ⟨⟨g0, g1, g2, g3⟩, gf, _⟩ := B3.out
        have q1 := HC.out _ K2.out (i + 1) (by omega)
        go_upto_region 9 with fail
        clear p0 p1 p2 p3 pf g0 g1 g2 g3 gf q0
        go_upto_region 10 with (go_at_call 26; refine (HW0.out _).mono ?_; rintro e w4 ⟨rfl, hb4⟩; have B5 := Lib.hid (B3.out.next hb4); obtain ⟨⟨g0, g1, g2, g3⟩, gf, _⟩ := B5.out)
        have B4 := Lib.hid (B2.out.next hb4)
        have K4 := Lib.hid (K2.out.trans (hb4.mono K2.out.size))
        have B6 := Lib.hid (B5.out.put (.int .i64 wo0.k) (.int .i64 wo0.n) (.int .i64 wo0.m) (.int .i64 wo0.l))
        have B7 := Lib.hid (((((B4.out.other hne 0 (.int .i64 wo0.k)).other hne 1 (.int .i64 wo0.n)).other hne 2 (.int .i64 wo0.m)).other hne 3 (.int .i64 wo0.l)))
        have K6 := Lib.hid (put_belowO (x := .int .i64 wo0.k) (y := .int .i64 wo0.n) (z := .int .i64 wo0.m) (u := .int .i64 wo0.l) (K4.out) hle)
        clear g0 g1 g2 g3 gf
        generalize (((w4.setCell ⟨g, 0, none⟩ (.int .i64 wo0.k)).setCell ⟨g, 1, none⟩ (.int .i64 wo0.n)).setCell ⟨g, 2, none⟩ (.int .i64 wo0.m)).setCell ⟨g, 3, none⟩ (.int .i64 wo0.l) = w5 at *
        clear B5 B4 K4 B2 B3 K2 hb4
        obtain ⟨⟨p0, p1, p2, p3⟩, pf, _⟩ := B7.out
        obtain ⟨⟨g0, g1, g2, g3⟩, gf, _⟩ := B6.out
        go_wp2_with fail
        refine bodyPost_ret (res_box2 rfl rfl ((B7.out.other hne 3 _).put _ _ _ _)) rfl ?_
        exact ⟨rfl, put_belowO (K6.out.setCell hle _) (Nat.le_refl _)⟩
      · rw [hk] at hs HL
        simp only [hk, if_true, show ((2 : Int) = 1) = False by decide, show ((3 : Int) = 1) = False by decide, show ((3 : Int) = 2) = False by decide, if_false]
        clear HW0
        go_enter Tryd.func13, Tryd.ntmps13
        go_upto_region 1 with fail
        have B1 := Lib.hid (box_new w (.int .i64 0) (.int .i64 0) (.int .i64 0) (.int .i64 0))
        have K1 := Lib.hid (below_new w (.cells #[.int .i64 0, .int .i64 0, .int .i64 0, .int .i64 0] 25))
        generalize w.alloc (.cells #[.int .i64 0, .int .i64 0, .int .i64 0, .int .i64 0] 25) = w1 at *
        have q0 := HC.out _ K1.out i hi
        go_upto_region 8 with (first | (go_at_call 24; refine (HL.out _).mono ?_; rintro e w2 ⟨rfl, rfl⟩) | (go_at_call 25; refine (HS.out _).mono ?_; rintro e w2 ⟨rfl, hb2⟩))
        have B3 := Lib.hid (box_new w2 (.int .i64 so.k) (.int .i64 so.n) (.int .i64 so.m) (.int .i64 so.l))
        have B2 := Lib.hid ((B1.out.next hb2).next (below_new w2 (.cells #[.int .i64 so.k, .int .i64 so.n, .int .i64 so.m, .int .i64 so.l] 25)))
        have K2 := Lib.hid ((K1.out.trans (hb2.mono K1.out.size)).alloc (Nat.le_trans K1.out.size hb2.size) (.cells #[.int .i64 so.k, .int .i64 so.n, .int .i64 so.m, .int .i64 so.l] 25))
        have hne : w.heap.size ≠ w2.heap.size := Nat.ne_of_lt (Nat.lt_of_lt_of_le B1.out.2.2 hb2.size)
        generalize w2.alloc (.cells #[.int .i64 so.k, .int .i64 so.n, .int .i64 so.m, .int .i64 so.l] 25) = w3 at *
        have hle : w.heap.size ≤ w2.heap.size := Nat.le_trans K1.out.size hb2.size
        generalize w2.heap.size = g at *
        clear hb2
        obtain ⟨⟨p0, p1, p2, p3⟩, pf, _⟩ := B2.out
        obtain ⟨⟨g0, g1, g2, g3⟩, gf, _⟩ := B3.out
        have q1 := HC.out _ K2.out (i + 1) (by omega)
        have q2 := HC.out _ K2.out (i + 2) (by omega)
        go_upto_region 11 with fail
        clear p0 p1 p2 p3 pf g0 g1 g2 g3 gf q0
        obtain ⟨j, hj⟩ : ∃ j, i + 1 = j := ⟨_, rfl⟩
        obtain ⟨k, hkk⟩ : ∃ j, i + 2 = j := ⟨_, rfl⟩
        have hi1 : (j : Int) < ln := by omega
        have hi2 : (k : Int) < ln := by omega
        have hi3 : (0 : Int) ≤ (j : Int) := by omega
        have hi4 : (0 : Int) ≤ (k : Int) := by omega
        rw [hj] at q1 n0 n1 HW
        rw [hkk] at q2 m0 m1 HW
        have HX : Hid (IntKind.i64.wrap ((i : Int) + 1) = (j : Int) ∧ IntKind.i64.wrap ((i : Int) + 2) = (k : Int) ∧ IntKind.i64.wrap (byt bs j) = byt bs j ∧ IntKind.i64.wrap (byt bs k) = byt bs k) := Lib.hid ⟨by rw [IntKind.wrap_i64]; omega, by rw [IntKind.wrap_i64]; omega, by rw [IntKind.wrap_i64]; omega, by rw [IntKind.wrap_i64]; omega⟩
        have q3 : ({ heap := w3.heap, tape := w3.tape, drawn := w3.drawn + 1, os := w3.os, output := w3.output } : World).cell? ⟨b, off + j, none⟩ = some (.int .u8 (byt bs j)) := q1
        have q4 : ({ heap := w3.heap, tape := w3.tape, drawn := w3.drawn + 1, os := w3.os, output := w3.output } : World).cell? ⟨b, off + k, none⟩ = some (.int .u8 (byt bs k)) := q2
        clear hj hkk
        obtain ⟨hw1, hw2, hu1, hu2⟩ := HX.out
        go_still_tail 13, (by kernel_rfl)
        clear hw1 hw2 hu1 hu2 q3 q4
        change wpList _ _ _ _ _ w3.drew
        have B9 := Lib.hid (B3.out.next (below_drewN _ _ 1))
        have B8 := Lib.hid (B2.out.next (below_drewN _ _ 1))
        have K8 := Lib.hid (K2.out.trans (below_drewN _ w3 1))
        change Hid (Box _ _ _ _ _ w3.drew) at B9
        change Hid (Box _ _ _ _ _ w3.drew) at B8
        change Hid (Below _ _ w3.drew) at K8
        clear B2 B3 K2 HC q1 q2
        generalize w3.drew = w6 at *
        go_upto_region 12 with (go_at_call 26; refine (HW.out _).mono ?_; rintro e w4 ⟨rfl, hb4⟩; have B5 := Lib.hid (B9.out.next hb4); obtain ⟨⟨g0, g1, g2, g3⟩, gf, _⟩ := B5.out)
        have B4 := Lib.hid (B8.out.next hb4)
        have K4 := Lib.hid (K8.out.trans (hb4.mono K8.out.size))
        have B6 := Lib.hid (B5.out.put (.int .i64 wo.k) (.int .i64 wo.n) (.int .i64 wo.m) (.int .i64 wo.l))
        have B7 := Lib.hid (((((B4.out.other hne 0 (.int .i64 wo.k)).other hne 1 (.int .i64 wo.n)).other hne 2 (.int .i64 wo.m)).other hne 3 (.int .i64 wo.l)))
        have K6 := Lib.hid (put_belowO (x := .int .i64 wo.k) (y := .int .i64 wo.n) (z := .int .i64 wo.m) (u := .int .i64 wo.l) (K4.out) hle)
        clear g0 g1 g2 g3 gf
        generalize (((w4.setCell ⟨g, 0, none⟩ (.int .i64 wo.k)).setCell ⟨g, 1, none⟩ (.int .i64 wo.n)).setCell ⟨g, 2, none⟩ (.int .i64 wo.m)).setCell ⟨g, 3, none⟩ (.int .i64 wo.l) = w5 at *
        clear B5 B4 K4 B8 B9 K8 hb4
        obtain ⟨⟨p0, p1, p2, p3⟩, pf, _⟩ := B7.out
        obtain ⟨⟨g0, g1, g2, g3⟩, gf, _⟩ := B6.out
        go_wp2_with fail
        refine bodyPost_ret (res_box2 rfl rfl ((B7.out.other hne 3 _).put _ _ _ _)) rfl ?_
        exact ⟨rfl, put_belowO (K6.out.setCell hle _) (Nat.le_refl _)⟩
end Go.Proofs.YtmcikjihkgplaaaDoor
