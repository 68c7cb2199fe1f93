/- The package's two: what it answers. -/
import Derived.Test.YtmcikjihkgplaaaDoorPa
namespace Go.Proofs.YtmcikjihkgplaaaDoor
set_option maxRecDepth 1000000
open Go.ChangeShapes Go.WideShapes Go.ChangeAt Go.RowKit

theorem wide_qu {c n : Int} (h0 : 128 ≤ c) (h1 : c ≤ 130) (h2 : 0 ≤ n) (h3 : n ≤ 255) : wideO c n 0 = if quAt c n = 0 then o3 0 0 0 else o3 (quAt c n) (n % 64) 0 := by
  have hc : c = 128 ∨ c = 129 ∨ c = 130 := by omega
  have hn : n / 64 = 0 ∨ n / 64 = 1 ∨ n / 64 = 2 ∨ n / 64 = 3 := by omega
  unfold quAt wideO
  rcases hc with rfl | rfl | rfl <;> rcases hn with e | e | e | e <;> rw [e] <;> simp [o3]
set_option maxHeartbeats 2000000 in
theorem two_code (c n : Int) (w : World) (hT : Tabs w) (hc : (128 ≤ c ∧ c ≤ 130) ∨ c = 131 ∨ c = 133 ∨ (160 ≤ c ∧ c ≤ 175)) (h2 : 0 ≤ n) (h3 : n ≤ 255) : Calls Tryd.prog 31 #[.int .i64 c, .int .i64 n] w fun e w' => e = .returned (.agg #[.int .i64 (wideO c n 0).k, .int .i64 (wideO c n 0).n, .int .i64 (wideO c n 0).m, .int .i64 (wideO c n 0).l]) ∧ Below w.heap.size w w' := by
  have r1 : n.tdiv 64 = n / 64 := Int.tdiv_eq_ediv_of_nonneg h2
  have r2 : n.tmod 64 = n % 64 := Int.tmod_eq_emod_of_nonneg h2
  have r3 : n.tdiv 32 = n / 32 := Int.tdiv_eq_ediv_of_nonneg h2
  have r4 : n.tmod 32 = n % 32 := Int.tmod_eq_emod_of_nonneg h2
  have hT2 := hT.next (below_new w (.cells #[.int .i64 0, .int .i64 0, .int .i64 0, .int .i64 0] 25))
  have B1 := Lib.hid (box_new w (.int .i64 0) (.int .i64 0) (.int .i64 0) (.int .i64 0))
  have K1 := Lib.hid (below_new w (.cells #[.int .i64 0, .int .i64 0, .int .i64 0, .int .i64 0] 25))
  clear hT
  rcases hc with ⟨hc1, hc2⟩ | rfl | rfl | ⟨hc1, hc2⟩
  · rw [wide_qu hc1 hc2 h2 h3]
    have e1 : (w.alloc (.cells #[.int .i64 0, .int .i64 0, .int .i64 0, .int .i64 0] 25)).cell? ⟨1, (c - 128).toNat * 4 + (n / 64).toNat, none⟩ = some (.int .i64 (quAt c n)) := by
      obtain ⟨j, hj, hj2, hj3⟩ := qu_at hc1 hc2 h2 h3
      rw [show (c - 128).toNat * 4 + (n / 64).toNat = j by omega, ← hj3]; exact hT2.qu j hj
    clear hT2 r3 r4
    generalize quAt c n = q at *
    have hc : c = 128 ∨ c = 129 ∨ c = 130 := by omega
    by_cases hq : q = 0
    · have f1 : (q == 0) = true := by simpa using hq
      have f2 : (q != 0) = false := by simp [hq]
      rw [if_pos hq]
      clear hq
      rcases hc with rfl | rfl | rfl
      all_goals
        simp at e1
        go_enter Tryd.func31, Tryd.ntmps31
        go_upto_region 1 with fail
        generalize w.alloc (.cells #[.int .i64 0, .int .i64 0, .int .i64 0, .int .i64 0] 25) = w1 at *
        obtain ⟨⟨p0, p1, p2, p3⟩, pf, _⟩ := B1.out
        go_wp2_with fail
        refine bodyPost_ret (res_box rfl rfl (B1.out.put _ _ _ _)) rfl ?_
        exact ⟨rfl, put_belowO K1.out (Nat.le_refl _)⟩
    · have f1 : (q == 0) = false := by simpa using hq
      have f2 : (q != 0) = true := by simp [hq]
      rw [if_neg hq]
      clear hq
      rcases hc with rfl | rfl | rfl
      all_goals
        simp at e1
        go_enter Tryd.func31, Tryd.ntmps31
        go_upto_region 1 with fail
        generalize w.alloc (.cells #[.int .i64 0, .int .i64 0, .int .i64 0, .int .i64 0] 25) = w1 at *
        obtain ⟨⟨p0, p1, p2, p3⟩, pf, _⟩ := B1.out
        go_wp2_with fail
        refine bodyPost_ret (res_box rfl rfl (B1.out.put _ _ _ _)) rfl ?_
        exact ⟨rfl, put_belowO K1.out (Nat.le_refl _)⟩
  · clear hT2
    go_enter Tryd.func31, Tryd.ntmps31
    go_upto_region 1 with fail
    generalize w.alloc (.cells #[.int .i64 0, .int .i64 0, .int .i64 0, .int .i64 0] 25) = w1 at *
    obtain ⟨⟨p0, p1, p2, p3⟩, pf, _⟩ := B1.out
    go_wp2_with fail
    refine bodyPost_ret (res_box rfl rfl (B1.out.put _ _ _ _)) rfl ?_
    exact ⟨rfl, put_belowO K1.out (Nat.le_refl _)⟩
  · clear hT2
    go_enter Tryd.func31, Tryd.ntmps31
    go_upto_region 1 with fail
    generalize w.alloc (.cells #[.int .i64 0, .int .i64 0, .int .i64 0, .int .i64 0] 25) = w1 at *
    obtain ⟨⟨p0, p1, p2, p3⟩, pf, _⟩ := B1.out
    go_wp2_with fail
    refine bodyPost_ret (res_box rfl rfl (B1.out.put _ _ _ _)) rfl ?_
    exact ⟨rfl, put_belowO K1.out (Nat.le_refl _)⟩
  · clear hT2 r1 r2 r3 r4
    have h0 : 0 ≤ c := by omega
    have r4 : c.tmod 4 = c % 4 := Int.tmod_eq_emod_of_nonneg h0
    go_enter Tryd.func31, Tryd.ntmps31
    go_upto_region 1 with fail
    generalize w.alloc (.cells #[.int .i64 0, .int .i64 0, .int .i64 0, .int .i64 0] 25) = w1 at *
    obtain ⟨⟨p0, p1, p2, p3⟩, pf, _⟩ := B1.out
    go_wp2_with fail
    all_goals (go_light; refine bodyPost_ret (res_box rfl rfl (B1.out.put _ _ _ _)) rfl ?_; refine ⟨ret_o ?_, put_belowO K1.out (Nat.le_refl _)⟩; (try simp only [beq_iff_eq, beq_eq_false_iff_ne, ne_eq, Bool.or_eq_true, Bool.and_eq_true, decide_eq_true_eq, decide_eq_false_iff_not] at *); show _ = wideO _ _ _; unfold wideO; repeat (first | rw [if_pos (by omega)] | rw [if_neg (by omega)]))
    all_goals (first | rfl | (simp [o3, OpT.mk.injEq, Int.tmod_eq_emod_of_nonneg h0] <;> omega) | (subst_vars; rfl))
end Go.Proofs.YtmcikjihkgplaaaDoor
