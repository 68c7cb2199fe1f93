/- The package's size, one, two: what they answer. -/
import Derived.Test.YtmcikjihkgplaaaDoorKAt
import Derived.Test.YtmcikjihkgplaaaDoorKTa
namespace Go.Proofs.YtmcikjihkgplaaaDoor
set_option maxRecDepth 1000000
open Go.ChangeShapes Go.WideShapes Go.ChangeAt Go.RowKit

theorem size_code (c : Int) (w : World) (h0 : 0 ≤ c) (h1 : c ≤ 255) : Calls Tryd.prog 22 #[.int .u8 c] w fun e w' => e = .returned (.int .i64 (longN c)) ∧ w = w' := by
  go_enter Tryd.func22, Tryd.ntmps22
  go_wp2
  all_goals go_ret
  all_goals (go_light; refine ⟨ret_i ?_, rfl⟩; simp only [longN, beq_iff_eq, beq_eq_false_iff_ne, ne_eq, Bool.or_eq_true, Bool.and_eq_true, decide_eq_true_eq, decide_eq_false_iff_not] at *; repeat (first | rw [if_pos (by omega)] | rw [if_neg (by omega)]))
def quAt (c n : Int) : Int := if c = 128 then 1 + n / 64 else if n / 64 = 2 then 0 else if n / 64 = 3 then (if c = 129 then 7 else 10) else if c = 129 then 5 + n / 64 else 8 + n / 64
theorem qu_at {c n : Int} (h0 : 128 ≤ c) (h1 : c ≤ 130) (h2 : 0 ≤ n) (h3 : n ≤ 255) : ∃ j : Nat, j < 12 ∧ (j : Int) = (c - 128) * 4 + n / 64 ∧ quL.getD j 0 = quAt c n := by
  have hc : c = 128 ∨ c = 129 ∨ c = 130 := by omega
  have hn : n / 64 = 0 ∨ n / 64 = 1 ∨ n / 64 = 2 ∨ n / 64 = 3 := by omega
  refine ⟨((c - 128) * 4 + n / 64).toNat, by omega, by omega, ?_⟩
  unfold quAt
  rcases hc with rfl | rfl | rfl <;> rcases hn with e | e | e | e <;> rw [e] <;> rfl
theorem oop_at {c : Int} (h0 : 113 ≤ c) (h1 : c ≤ 119) : ∃ j : Nat, j < 7 ∧ (j : Int) = c - 113 ∧ oopL.getD j 0 = oopAt (c - 112) := by
  have hc : c = 113 ∨ c = 114 ∨ c = 115 ∨ c = 116 ∨ c = 117 ∨ c = 118 ∨ c = 119 := by omega
  refine ⟨(c - 113).toNat, by omega, by omega, ?_⟩
  rcases hc with rfl | rfl | rfl | rfl | rfl | rfl | rfl <;> rfl
theorem oop_at2 {c : Int} (h0 : 121 ≤ c) (h1 : c ≤ 123) : ∃ j : Nat, j < 7 ∧ (j : Int) = c - 121 ∧ oopL.getD j 0 = oopAt (c - 120) := by
  have hc : c = 121 ∨ c = 122 ∨ c = 123 := by omega
  refine ⟨(c - 121).toNat, by omega, by omega, ?_⟩
  rcases hc with rfl | rfl | rfl <;> rfl
set_option maxHeartbeats 2000000 in
theorem one_code (c : Int) (w : World) (hT : Tabs w) (h0 : 0 ≤ c) (h1 : c ≤ 255) : Calls Tryd.prog 30 #[.int .i64 c] w fun e w' => e = .returned (.agg #[.int .i64 (shortO c).k, .int .i64 (shortO c).n, .int .i64 (shortO c).m, .int .i64 (shortO c).l]) ∧ Below w.heap.size w w' := by
  have r4 : c.tmod 16 = c % 16 := Int.tmod_eq_emod_of_nonneg h0
  have r5 : (c - 208).tdiv 16 = if 208 ≤ c then (c - 208) / 16 else (c - 208).tdiv 16 := by
    split
    · exact Int.tdiv_eq_ediv_of_nonneg (by omega)
    · rfl
  have hT2 := hT.next (below_new w (.cells #[.int .i64 0, .int .i64 0, .int .i64 0, .int .i64 0] 25))
  have B1 := Lib.hid (box_new w (.int .i64 0) (.int .i64 0) (.int .i64 0) (.int .i64 0))
  have K1 := Lib.hid (below_new w (.cells #[.int .i64 0, .int .i64 0, .int .i64 0, .int .i64 0] 25))
  have h2 := hT.three
  have h3 : w.heap.size ≠ 0 := by omega
  clear hT h2
  by_cases ha : 113 ≤ c ∧ c ≤ 119
  · obtain ⟨ha1, ha2⟩ := ha
    have e1 : (w.alloc (.cells #[.int .i64 0, .int .i64 0, .int .i64 0, .int .i64 0] 25)).cell? ⟨0, (c - 113).toNat, none⟩ = some (.int .i64 (oopAt (c - 112))) := by
      obtain ⟨j, hj, hj2, hj3⟩ := oop_at ha1 ha2
      rw [← hj3, ← hj2, Int.toNat_natCast]; exact hT2.oop j hj
    clear hT2 r4 r5
    go_enter Tryd.func30, Tryd.ntmps30
    go_upto_region 1 with fail
    generalize w.alloc (.cells #[.int .i64 0, .int .i64 0, .int .i64 0, .int .i64 0] 25) = w1 at *
    obtain ⟨⟨p0, p1, p2, p3⟩, pf, _⟩ := B1.out
    go_wp2_with fail
    all_goals (go_light; refine bodyPost_ret (res_box rfl rfl (B1.out.put _ _ _ _)) rfl ?_; refine ⟨ret_o ?_, put_belowO K1.out (Nat.le_refl _)⟩; (try simp only [beq_iff_eq, beq_eq_false_iff_ne, ne_eq, Bool.or_eq_true, Bool.and_eq_true, decide_eq_true_eq, decide_eq_false_iff_not] at *); show _ = shortO _; unfold shortO; repeat (first | rw [if_pos (by omega)] | rw [if_neg (by omega)]))
    all_goals (first | rfl | (simp [o3, OpT.mk.injEq, Int.tmod_eq_emod_of_nonneg h0] <;> omega) | (subst_vars; rfl))
  by_cases hb : 121 ≤ c ∧ c ≤ 123
  · obtain ⟨ha1, ha2⟩ := hb
    have e1 : (w.alloc (.cells #[.int .i64 0, .int .i64 0, .int .i64 0, .int .i64 0] 25)).cell? ⟨0, (c - 121).toNat, none⟩ = some (.int .i64 (oopAt (c - 120))) := by
      obtain ⟨j, hj, hj2, hj3⟩ := oop_at2 ha1 ha2
      rw [← hj3, ← hj2, Int.toNat_natCast]; exact hT2.oop j hj
    clear hT2 r4 r5 ha
    go_enter Tryd.func30, Tryd.ntmps30
    go_upto_region 1 with fail
    generalize w.alloc (.cells #[.int .i64 0, .int .i64 0, .int .i64 0, .int .i64 0] 25) = w1 at *
    obtain ⟨⟨p0, p1, p2, p3⟩, pf, _⟩ := B1.out
    go_wp2_with fail
    all_goals (go_light; refine bodyPost_ret (res_box rfl rfl (B1.out.put _ _ _ _)) rfl ?_; refine ⟨ret_o ?_, put_belowO K1.out (Nat.le_refl _)⟩; (try simp only [beq_iff_eq, beq_eq_false_iff_ne, ne_eq, Bool.or_eq_true, Bool.and_eq_true, decide_eq_true_eq, decide_eq_false_iff_not] at *); show _ = shortO _; unfold shortO; repeat (first | rw [if_pos (by omega)] | rw [if_neg (by omega)]))
    all_goals (first | rfl | (simp [o3, OpT.mk.injEq, Int.tmod_eq_emod_of_nonneg h0] <;> omega) | (subst_vars; rfl))
  by_cases hc : c < 113
  · skip
    clear hT2 r4 r5 ha hb
    go_enter Tryd.func30, Tryd.ntmps30
    go_upto_region 1 with fail
    generalize w.alloc (.cells #[.int .i64 0, .int .i64 0, .int .i64 0, .int .i64 0] 25) = w1 at *
    obtain ⟨⟨p0, p1, p2, p3⟩, pf, _⟩ := B1.out
    go_wp2_with fail
    all_goals (go_light; refine bodyPost_ret (res_box rfl rfl (B1.out.put _ _ _ _)) rfl ?_; refine ⟨ret_o ?_, put_belowO K1.out (Nat.le_refl _)⟩; (try simp only [beq_iff_eq, beq_eq_false_iff_ne, ne_eq, Bool.or_eq_true, Bool.and_eq_true, decide_eq_true_eq, decide_eq_false_iff_not] at *); show _ = shortO _; unfold shortO; repeat (first | rw [if_pos (by omega)] | rw [if_neg (by omega)]))
    all_goals (first | rfl | (simp [o3, OpT.mk.injEq, Int.tmod_eq_emod_of_nonneg h0] <;> omega) | (subst_vars; rfl))
  by_cases hq : c < 124
  · obtain rfl : c = 120 := by omega
    clear hT2 r4 r5 ha hb hc hq
    go_enter Tryd.func30, Tryd.ntmps30
    go_upto_region 1 with fail
    generalize w.alloc (.cells #[.int .i64 0, .int .i64 0, .int .i64 0, .int .i64 0] 25) = w1 at *
    obtain ⟨⟨p0, p1, p2, p3⟩, pf, _⟩ := B1.out
    go_wp2_with fail
    refine bodyPost_ret (res_box rfl rfl (B1.out.put _ _ _ _)) rfl ?_
    exact ⟨rfl, put_belowO K1.out (Nat.le_refl _)⟩
  by_cases hd : c < 144
  · have hd1 : 124 ≤ c := by omega
    clear hT2 r4 r5 ha hb hc hq
    go_enter Tryd.func30, Tryd.ntmps30
    go_upto_region 1 with fail
    generalize w.alloc (.cells #[.int .i64 0, .int .i64 0, .int .i64 0, .int .i64 0] 25) = w1 at *
    obtain ⟨⟨p0, p1, p2, p3⟩, pf, _⟩ := B1.out
    go_wp2_with fail
    all_goals (go_light; refine bodyPost_ret (res_box rfl rfl (B1.out.put _ _ _ _)) rfl ?_; refine ⟨ret_o ?_, put_belowO K1.out (Nat.le_refl _)⟩; (try simp only [beq_iff_eq, beq_eq_false_iff_ne, ne_eq, Bool.or_eq_true, Bool.and_eq_true, decide_eq_true_eq, decide_eq_false_iff_not] at *); show _ = shortO _; unfold shortO; repeat (first | rw [if_pos (by omega)] | rw [if_neg (by omega)]))
    all_goals (first | rfl | (simp [o3, OpT.mk.injEq, Int.tmod_eq_emod_of_nonneg h0] <;> omega) | (subst_vars; rfl))
  by_cases he : c < 208
  · have hd1 : 144 ≤ c := by omega
    clear hT2 r5 ha hb hc hq hd
    go_enter Tryd.func30, Tryd.ntmps30
    go_upto_region 1 with fail
    generalize w.alloc (.cells #[.int .i64 0, .int .i64 0, .int .i64 0, .int .i64 0] 25) = w1 at *
    obtain ⟨⟨p0, p1, p2, p3⟩, pf, _⟩ := B1.out
    go_wp2_with fail
    all_goals (go_light; refine bodyPost_ret (res_box rfl rfl (B1.out.put _ _ _ _)) rfl ?_; refine ⟨ret_o ?_, put_belowO K1.out (Nat.le_refl _)⟩; (try simp only [beq_iff_eq, beq_eq_false_iff_ne, ne_eq, Bool.or_eq_true, Bool.and_eq_true, decide_eq_true_eq, decide_eq_false_iff_not] at *); show _ = shortO _; unfold shortO; repeat (first | rw [if_pos (by omega)] | rw [if_neg (by omega)]))
    all_goals (first | rfl | (simp [o3, OpT.mk.injEq, Int.tmod_eq_emod_of_nonneg h0] <;> omega) | (subst_vars; rfl))
  · have hd1 : 208 ≤ c := by omega
    rw [if_pos hd1] at r5
    clear hT2 ha hb hc hq hd he
    go_enter Tryd.func30, Tryd.ntmps30
    go_upto_region 1 with fail
    generalize w.alloc (.cells #[.int .i64 0, .int .i64 0, .int .i64 0, .int .i64 0] 25) = w1 at *
    obtain ⟨⟨p0, p1, p2, p3⟩, pf, _⟩ := B1.out
    go_wp2_with fail
    all_goals (go_light; refine bodyPost_ret (res_box rfl rfl (B1.out.put _ _ _ _)) rfl ?_; refine ⟨ret_o ?_, put_belowO K1.out (Nat.le_refl _)⟩; (try simp only [beq_iff_eq, beq_eq_false_iff_ne, ne_eq, Bool.or_eq_true, Bool.and_eq_true, decide_eq_true_eq, decide_eq_false_iff_not] at *); show _ = shortO _; unfold shortO; repeat (first | rw [if_pos (by omega)] | rw [if_neg (by omega)]))
    all_goals (first | rfl | (simp [o3, OpT.mk.injEq, Int.tmod_eq_emod_of_nonneg h0] <;> omega) | (subst_vars; rfl))
end Go.Proofs.YtmcikjihkgplaaaDoor
