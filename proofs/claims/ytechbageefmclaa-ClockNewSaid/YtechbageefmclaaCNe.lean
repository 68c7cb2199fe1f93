/- ClockNew's walk. -/
import Derived.Test.YtechbageefmclaaCKn
namespace Go.Proofs.Ytechbageefmclaa
set_option maxRecDepth 1000000
open Go.ChangeShapes Go.WideShapes Go.ChangeAt Go.RowKit

theorem is_E0 (n : Nat) (i : Int) : isOf n E0 i = ⟨false, false, false⟩ := by
  unfold isOf E0
  split <;> rfl
set_option maxHeartbeats 4000000 in
theorem clockNew_walk (W : World) (n : Int) (hw : (Lit.int .i64 n).wf = true) (i : Int) (_hi : (Lit.int .i64 i).wf = true) : Calls Try.prog 4 #[.int .i64 n, .int .i64 i] W fun e W' => e = .returned (.bool true) ∧ Below W.heap.size W W' := by
  have HK := Lib.hid (fun w => known_any w)
  clear _hi
  by_cases h0 : n < 0
  · have HN := Lib.hid (new_no n W (.inl h0))
    have hd : decide (n < 0) = true := decide_eq_true h0
    clear hw h0
    go_enter Try.func4, Try.ntmps4
    go_wp2_with fail
    refine HN.out.mono ?_
    rintro e w1 ⟨rfl, rfl⟩
    go_wp2_with fail
    refine (HK.out W).mono ?_
    rintro e w1 ⟨rfl, b1⟩
    go_wp2_with fail
    go_ret
    exact ⟨rfl, b1⟩
  · have hd : decide (n < 0) = false := decide_eq_false h0
    by_cases h1 : 16384 < n
    · have HN := Lib.hid (new_no n W (.inr h1))
      have hd2 : decide (16384 < n) = true := decide_eq_true h1
      clear hw h0 h1
      go_enter Try.func4, Try.ntmps4
      go_wp2_with fail
      refine HN.out.mono ?_
      rintro e w1 ⟨rfl, rfl⟩
      go_wp2_with fail
      refine (HK.out W).mono ?_
      rintro e w1 ⟨rfl, b1⟩
      go_wp2_with fail
      go_ret
      exact ⟨rfl, b1⟩
    · obtain ⟨n, rfl⟩ := Int.eq_ofNat_of_zero_le (by omega : 0 ≤ n)
      have hn : n ≤ 16384 := by omega
      have hd2 : decide ((16384 : Int) < (n : Int)) = false := decide_eq_false h1
      have HN := Lib.hid (new_yes n W hn)
      have HIs : Hid (∀ (c : Ck) (w1 : World), ClkB W w1 c n E0 0 → Calls Try.prog 11 #[.pointer (some ⟨c.t, 0, none⟩), .int .i64 i] w1 (ToldD (.tuple #[.bool false, .bool false, .bool false]) w1)) :=
        Lib.hid fun c w1 a => by
          have := is_any i a.is
          rwa [is_E0] at this
      have HV : Hid (∀ (c : Ck) (w1 : World), ClkB W w1 c n E0 0 → Calls Try.prog 13 #[.pointer (some ⟨c.t, 0, none⟩)] w1 (BPost W (.tuple #[.int .i64 0, .bool false]) c n E0 0)) :=
        Lib.hid fun c w1 a => victim_b _ _ (vic_none' a.is.hand fun _ _ => rfl) a
      have HH : Hid (∀ (c : Ck) (w1 : World), ClkB W w1 c n E0 0 → Calls Try.prog 12 #[.pointer (some ⟨c.t, 0, none⟩)] w1 (Told (.int .i64 0) w1)) := Lib.hid fun c w1 a => hand_at a.is
      have HT : Hid (∀ (c : Ck) (w1 : World), ClkB W w1 c n E0 0 → Calls Try.prog 15 #[.pointer (some ⟨c.t, 0, none⟩), .slice (some ⟨w1.heap.size, 0, none⟩) 1 1] (w1.alloc (.cells #[.int .i64 i] 3)) (BPost W (.int .i64 4) c n E0 0)) :=
        Lib.hid fun c w1 a => touch_bn i (by rw [is_E0]) a
      have HP : Hid (∀ (c : Ck) (w1 : World), ClkB W w1 c n E0 0 → Calls Try.prog 16 #[.pointer (some ⟨c.t, 0, none⟩), .int .i64 i, .bool true] w1 (BPost W (.int .i64 4) c n E0 0)) :=
        Lib.hid fun c w1 a => pin_bn i true (by rw [is_E0]) a
      clear hw h0 h1
      go_enter Try.func4, Try.ntmps4
      go_wp2_with fail
      refine HN.out.mono ?_
      rintro e w1 ⟨c, rfl, a1⟩
      have H1 := Lib.hid a1
      clear a1 HN
      go_wp2_with fail
      refine (HIs.out c w1 H1.out).mono ?_
      rintro e w2 ⟨rfl, q, hw2⟩
      have H2 : Hid (ClkB W w2 c n E0 0) := by rw [hw2]; exact H1.out.drewN q
      clear hw2 H1
      go_wp2_with fail
      refine (HV.out c w2 H2.out).mono ?_
      rintro e w3 ⟨rfl, a3⟩
      have H3 := Lib.hid a3
      clear a3 H2
      go_wp2_with fail
      refine (HH.out c w3 H3.out).mono ?_
      rintro e w4 ⟨rfl, rfl⟩
      go_wp2_with fail
      refine (HT.out c w3 H3.out).mono ?_
      rintro e w4 ⟨rfl, a4⟩
      have H4 := Lib.hid a4
      clear a4 H3
      go_wp2_with fail
      refine (HP.out c w4 H4.out).mono ?_
      rintro e w5 ⟨rfl, a5⟩
      have H5 := Lib.hid a5
      clear a5 H4
      go_wp2_with fail
      refine (HK.out w5).mono ?_
      rintro e w6 ⟨rfl, b6⟩
      have B6 := Lib.hid (H5.out.fresh b6)
      clear b6
      go_wp2_with fail
      go_ret
      exact ⟨rfl, B6.out.bl⟩
end Go.Proofs.Ytechbageefmclaa
