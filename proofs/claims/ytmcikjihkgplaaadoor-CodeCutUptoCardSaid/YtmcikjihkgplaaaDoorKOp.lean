/- The document's functions op, long, short, wide: what they answer. -/
import Derived.Test.YtmcikjihkgplaaaDoorKBox
import Derived.Deep.Light
namespace Go.Proofs.YtmcikjihkgplaaaDoor
set_option maxRecDepth 1000000
open Go.ChangeShapes Go.WideShapes Go.ChangeAt Go.RowKit

theorem ret_i {a b : Int} (h : a = b) : Ending.returned (.int .i64 a) = .returned (.int .i64 b) := by rw [h]
theorem ret_o {a b c d x y z u : Int} (h : (⟨a, b, c, d⟩ : OpT) = ⟨x, y, z, u⟩) : Ending.returned (.agg #[.int .i64 a, .int .i64 b, .int .i64 c, .int .i64 d]) = .returned (.agg #[.int .i64 x, .int .i64 y, .int .i64 z, .int .i64 u]) := by
  injection h with h1 h2 h3 h4
  rw [h1, h2, h3, h4]
theorem below_new (w : World) (o : Obj) : Below w.heap.size w (w.alloc o) := (Below.refl _ _).alloc (Nat.le_refl _) o
theorem two_new (w : World) (o o' : Obj) : Below w.heap.size w ((w.alloc o).alloc o') := (below_new w o).alloc (by simp) o'
theorem op_ref (k n m : Int) (w : World) : Calls Tryd.prog 32 #[.int .i64 k, .int .i64 n, .int .i64 m] w fun e w' => e = .returned (.agg #[.int .i64 k, .int .i64 n, .int .i64 m, .int .i64 0]) ∧ Below w.heap.size w w' := by
  go_enter Tryd.func32, Tryd.ntmps32
  go_wp2
  refine bodyPost_ret (res_box rfl rfl (box_new _ _ _ _ _)) rfl ?_
  exact ⟨rfl, below_new _ _⟩
theorem long_ref (c : Int) (w : World) (h0 : 0 ≤ c) (h1 : c ≤ 255) : Calls Tryd.prog 24 #[.int .i64 c] w fun e w' => e = .returned (.int .i64 (longN c)) ∧ w = w' := by
  go_enter Tryd.func24, Tryd.ntmps24
  go_wp2
  all_goals go_ret
  all_goals (go_light; refine ⟨ret_i ?_, rfl⟩; simp only [longN, beq_iff_eq, beq_eq_false_iff_ne, ne_eq, Bool.or_eq_true, Bool.and_eq_true, decide_eq_true_eq, decide_eq_false_iff_not] at *; repeat (first | rw [if_pos (by omega)] | rw [if_neg (by omega)]))
theorem put_belowO {w w' : World} {x y z u : Value} (h : Below w.heap.size w w') {p : Nat} (hp : w.heap.size ≤ p) : Below w.heap.size w ((((w'.setCell ⟨p, 0, none⟩ x).setCell ⟨p, 1, none⟩ y).setCell ⟨p, 2, none⟩ z).setCell ⟨p, 3, none⟩ u) := by
  exact (((h.setCell hp _).setCell hp _).setCell hp _).setCell hp _
set_option maxHeartbeats 2000000 in
theorem wide_ref (c n m : Int) (w : World) (h0 : 0 ≤ c) (h1 : c ≤ 255) (h2 : 0 ≤ n) (h3 : n ≤ 255) (h4 : 0 ≤ m) (h5 : m ≤ 255) : Calls Tryd.prog 26 #[.int .i64 c, .int .i64 n, .int .i64 m] w fun e w' => e = .returned (.agg #[.int .i64 (wideO c n m).k, .int .i64 (wideO c n m).n, .int .i64 (wideO c n m).m, .int .i64 (wideO c n m).l]) ∧ Below w.heap.size w w' := by
  have r1 : n.tdiv 64 = n / 64 := Int.tdiv_eq_ediv_of_nonneg h2
  have r2 : n.tmod 64 = n % 64 := Int.tmod_eq_emod_of_nonneg h2
  have r3 : n.tdiv 32 = n / 32 := Int.tdiv_eq_ediv_of_nonneg h2
  have r4 : n.tmod 32 = n % 32 := Int.tmod_eq_emod_of_nonneg h2
  go_enter Tryd.func26, Tryd.ntmps26
  go_wp2_with (go_at_call 32; refine (op_ref _ _ _ _).mono ?_; rintro e w1 ⟨rfl, hb⟩; have K1 := Lib.hid ((below_new w _).trans (hb.mono (by simp))); have B1 := Lib.hid ((box_new w _ _ _ _).next hb); obtain ⟨⟨p0, p1, p2, p3⟩, pf, _⟩ := B1.out)
  all_goals (go_light; refine bodyPost_ret (res_box rfl rfl (B1.out.put _ _ _ _)) rfl ?_; refine ⟨ret_o ?_, put_belowO K1.out (Nat.le_refl _)⟩; simp only [beq_iff_eq, beq_eq_false_iff_ne, ne_eq, Bool.or_eq_true, Bool.and_eq_true, decide_eq_true_eq, decide_eq_false_iff_not] at *; show _ = wideO _ _ _; unfold wideO; repeat (first | rw [if_pos (by omega)] | rw [if_neg (by omega)]))
  all_goals (first | rfl | (simp only [o3, OpT.mk.injEq] <;> omega))
theorem oop_cell (w : World) (i : Int) (h0 : 0 ≤ i) (h1 : i < 8) : (w.alloc (.cells #[.int .i64 0, .int .i64 4, .int .i64 6, .int .i64 2, .int .i64 (-1), .int .i64 1, .int .i64 3, .int .i64 5] 3)).cell? ⟨w.heap.size, i.toNat, none⟩ = some (.int .i64 (oopAt i)) := by
  have : i = 0 ∨ i = 1 ∨ i = 2 ∨ i = 3 ∨ i = 4 ∨ i = 5 ∨ i = 6 ∨ i = 7 := by omega
  rcases this with rfl | rfl | rfl | rfl | rfl | rfl | rfl | rfl <;> (rw [World.cell?_alloc_at _ _ _ _ rfl]; rfl)
theorem oop_cell2 (w : World) (o : Obj) (i : Int) (h0 : 0 ≤ i) (h1 : i < 8) : ((w.alloc o).alloc (.cells #[.int .i64 0, .int .i64 4, .int .i64 6, .int .i64 2, .int .i64 (-1), .int .i64 1, .int .i64 3, .int .i64 5] 3)).cell? ⟨w.heap.size + 1, i.toNat, none⟩ = some (.int .i64 (oopAt i)) := by
  have h := oop_cell (w.alloc o) i h0 h1
  rwa [show (w.alloc o).heap.size = w.heap.size + 1 by simp] at h
set_option maxHeartbeats 2000000 in
theorem short_ref (c : Int) (w : World) (h0 : 0 ≤ c) (h1 : c ≤ 255) : Calls Tryd.prog 25 #[.int .i64 c] w fun e w' => e = .returned (.agg #[.int .i64 (shortO c).k, .int .i64 (shortO c).n, .int .i64 (shortO c).m, .int .i64 (shortO c).l]) ∧ Below w.heap.size w w' := by
  have r3 : c.tdiv 16 = c / 16 := Int.tdiv_eq_ediv_of_nonneg h0
  have r4 : c.tmod 16 = c % 16 := Int.tmod_eq_emod_of_nonneg h0
  have H (hx : Prop) (i : Int) : hx → (hx → 0 ≤ i ∧ i < 8) → ((w.alloc (.cells #[.int .i64 0, .int .i64 0, .int .i64 0, .int .i64 0] 25)).alloc (.cells #[.int .i64 0, .int .i64 4, .int .i64 6, .int .i64 2, .int .i64 (-1), .int .i64 1, .int .i64 3, .int .i64 5] 3)).cell? ⟨w.heap.size + 1, i.toNat, none⟩ = some (.int .i64 (oopAt i)) := fun h k => oop_cell2 w _ i (k h).1 (k h).2
  by_cases ha : 113 ≤ c ∧ c ≤ 119
  · have e1 := H _ (c - 112) ha (fun h => by omega)
    clear H
    obtain ⟨ha1, ha2⟩ := ha
    go_enter Tryd.func25, Tryd.ntmps25
    go_wp2_with (go_at_call 32; refine (op_ref _ _ _ _).mono ?_; rintro e w1 ⟨rfl, hb⟩; have K1 := Lib.hid ((two_new w _ _).trans (hb.mono (by simp; omega))); have B1 := Lib.hid (((box_new w _ _ _ _).next (below_new _ _)).next hb); obtain ⟨⟨p0, p1, p2, p3⟩, pf, _⟩ := B1.out)
    all_goals (go_light; refine bodyPost_ret (res_box rfl rfl (B1.out.put _ _ _ _)) rfl ?_; refine ⟨ret_o ?_, put_belowO K1.out (Nat.le_refl _)⟩; (try simp only [beq_iff_eq, beq_eq_false_iff_ne, ne_eq, Bool.or_eq_true, Bool.and_eq_true, decide_eq_true_eq, decide_eq_false_iff_not] at *); show _ = shortO _; unfold shortO; repeat (first | rw [if_pos (by omega)] | rw [if_neg (by omega)]))
    all_goals (first | rfl | (simp only [o3, OpT.mk.injEq] <;> omega))
  by_cases hb : 121 ≤ c ∧ c ≤ 123
  · have e1 := H _ (c - 120) hb (fun h => by omega)
    clear H ha
    obtain ⟨ha1, ha2⟩ := hb
    go_enter Tryd.func25, Tryd.ntmps25
    go_wp2_with (go_at_call 32; refine (op_ref _ _ _ _).mono ?_; rintro e w1 ⟨rfl, hb⟩; have K1 := Lib.hid ((two_new w _ _).trans (hb.mono (by simp; omega))); have B1 := Lib.hid (((box_new w _ _ _ _).next (below_new _ _)).next hb); obtain ⟨⟨p0, p1, p2, p3⟩, pf, _⟩ := B1.out)
    all_goals (go_light; refine bodyPost_ret (res_box rfl rfl (B1.out.put _ _ _ _)) rfl ?_; refine ⟨ret_o ?_, put_belowO K1.out (Nat.le_refl _)⟩; (try simp only [beq_iff_eq, beq_eq_false_iff_ne, ne_eq, Bool.or_eq_true, Bool.and_eq_true, decide_eq_true_eq, decide_eq_false_iff_not] at *); show _ = shortO _; unfold shortO; repeat (first | rw [if_pos (by omega)] | rw [if_neg (by omega)]))
    all_goals (first | rfl | (simp only [o3, OpT.mk.injEq] <;> omega))
  clear H
  by_cases hc : c < 113
  · clear ha hb
    go_enter Tryd.func25, Tryd.ntmps25
    go_wp2_with (go_at_call 32; refine (op_ref _ _ _ _).mono ?_; rintro e w1 ⟨rfl, hb⟩; have K1 := Lib.hid ((two_new w _ _).trans (hb.mono (by simp; omega))); have B1 := Lib.hid (((box_new w _ _ _ _).next (below_new _ _)).next hb); obtain ⟨⟨p0, p1, p2, p3⟩, pf, _⟩ := B1.out)
    all_goals (go_light; refine bodyPost_ret (res_box rfl rfl (B1.out.put _ _ _ _)) rfl ?_; refine ⟨ret_o ?_, put_belowO K1.out (Nat.le_refl _)⟩; (try simp only [beq_iff_eq, beq_eq_false_iff_ne, ne_eq, Bool.or_eq_true, Bool.and_eq_true, decide_eq_true_eq, decide_eq_false_iff_not] at *); show _ = shortO _; unfold shortO; repeat (first | rw [if_pos (by omega)] | rw [if_neg (by omega)]))
    all_goals (first | rfl | (simp only [o3, OpT.mk.injEq] <;> omega))
  have hc1 : 120 ≤ c := by omega
  by_cases hd : c ≤ 120
  · clear ha hb hc
    go_enter Tryd.func25, Tryd.ntmps25
    go_wp2_with (go_at_call 32; refine (op_ref _ _ _ _).mono ?_; rintro e w1 ⟨rfl, hb⟩; have K1 := Lib.hid ((two_new w _ _).trans (hb.mono (by simp; omega))); have B1 := Lib.hid (((box_new w _ _ _ _).next (below_new _ _)).next hb); obtain ⟨⟨p0, p1, p2, p3⟩, pf, _⟩ := B1.out)
    all_goals (go_light; refine bodyPost_ret (res_box rfl rfl (B1.out.put _ _ _ _)) rfl ?_; refine ⟨ret_o ?_, put_belowO K1.out (Nat.le_refl _)⟩; (try simp only [beq_iff_eq, beq_eq_false_iff_ne, ne_eq, Bool.or_eq_true, Bool.and_eq_true, decide_eq_true_eq, decide_eq_false_iff_not] at *); show _ = shortO _; unfold shortO; repeat (first | rw [if_pos (by omega)] | rw [if_neg (by omega)]))
    all_goals (first | rfl | (simp only [o3, OpT.mk.injEq] <;> omega))
  have hc2 : 124 ≤ c := by omega
  clear ha hb hc hd
  go_enter Tryd.func25, Tryd.ntmps25
  go_wp2_with (go_at_call 32; refine (op_ref _ _ _ _).mono ?_; rintro e w1 ⟨rfl, hb⟩; have K1 := Lib.hid ((two_new w _ _).trans (hb.mono (by simp; omega))); have B1 := Lib.hid (((box_new w _ _ _ _).next (below_new _ _)).next hb); obtain ⟨⟨p0, p1, p2, p3⟩, pf, _⟩ := B1.out)
  all_goals (go_light; refine bodyPost_ret (res_box rfl rfl (B1.out.put _ _ _ _)) rfl ?_; refine ⟨ret_o ?_, put_belowO K1.out (Nat.le_refl _)⟩; (try simp only [beq_iff_eq, beq_eq_false_iff_ne, ne_eq, Bool.or_eq_true, Bool.and_eq_true, decide_eq_true_eq, decide_eq_false_iff_not] at *); show _ = shortO _; unfold shortO; repeat (first | rw [if_pos (by omega)] | rw [if_neg (by omega)]))
  all_goals (first | rfl | (simp only [o3, OpT.mk.injEq] <;> omega))
end Go.Proofs.YtmcikjihkgplaaaDoor
