/- NamesNew's walk. -/
import Derived.Test.YthooeehobhegbaaNLw
namespace Go.Proofs.Ythooeehobhegbaa
set_option maxRecDepth 1000000
open Go.ChangeShapes Go.WideShapes Go.ChangeAt Go.RowKit

theorem slotsN_zero (n : Nat) : slotsN (fun _ => 0) n = [] := by
  induction n with
  | zero => rfl
  | succ n ih => simp only [slotsN, ih]; rfl
theorem free_none_is (n : Nat) : FreeIs n (fun _ => 0) [1] 4 (fun _ => 0) := .inr ⟨fun h => h.1 1 (by simp) (by unfold idOf; split <;> rfl), rfl, rfl⟩
set_option maxHeartbeats 2000000 in
theorem namesNew_walk (W : World) (n : Int) (hw : (Lit.int .i64 n).wf = true) (id : Int) (_hid : (Lit.int .i64 id).wf = true) : Calls Try.prog 5 #[.int .i64 n, .int .i64 id] W fun e W' => e = .returned (.bool true) ∧ Below W.heap.size W W' := by
  have HK := Lib.hid (fun w => known_any w)
  clear _hid
  by_cases h0 : n < 0
  · have HN := Lib.hid (new_no n W (.inl h0))
    have hd : decide (n < 0) = true := decide_eq_true h0
    clear hw h0
    go_enter Try.func5, Try.ntmps5
    go_wp2_with fail
    refine HN.out.mono ?_
    rintro e w1 ⟨rfl, rfl⟩
    go_wp2_with fail
    refine (HK.out W).mono ?_
    rintro e w1 ⟨rfl, b1⟩
    go_wp2_with fail
    go_ret
    exact ⟨rfl, b1⟩
  · have hd : decide (n < 0) = false := decide_eq_false h0
    by_cases h1 : 16383 < n
    · have HN := Lib.hid (new_no n W (.inr h1))
      have hd2 : decide (16383 < n) = true := decide_eq_true h1
      clear hw h0 h1
      go_enter Try.func5, Try.ntmps5
      go_wp2_with fail
      refine HN.out.mono ?_
      rintro e w1 ⟨rfl, rfl⟩
      go_wp2_with fail
      refine (HK.out W).mono ?_
      rintro e w1 ⟨rfl, b1⟩
      go_wp2_with fail
      go_ret
      exact ⟨rfl, b1⟩
    · obtain ⟨n, rfl⟩ := Int.eq_ofNat_of_zero_le (by omega : 0 ≤ n)
      have hn : n ≤ 16383 := by omega
      have hd2 : decide ((16383 : Int) < (n : Int)) = false := decide_eq_false h1
      have HN := Lib.hid (new_yes n W hn)
      have HSl : Hid (∀ (c : Tb) (w1 : World), TabB W w1 c n (fun _ => 0) → Calls Try.prog 16 #[.pointer (some ⟨c.t, 0, none⟩), .int .i64 id] w1 (Told (.tuple #[.int .i64 0, .bool false]) w1)) :=
        Lib.hid (fun c w1 h => slot_at id 0 h.is (.inr ⟨rfl, fun i _ h => h.symm⟩))
      have HId : Hid (∀ (c : Tb) (w1 : World), TabB W w1 c n (fun _ => 0) → Calls Try.prog 17 #[.pointer (some ⟨c.t, 0, none⟩), .int .i64 id] w1 (Told (.tuple #[.int .i64 0, .bool false]) w1)) :=
        Lib.hid (fun c w1 h => by
          have := id_at id h.is
          rw [show idOf n (fun _ => 0) id = 0 by unfold idOf; split <;> rfl] at this
          exact this)
      have HLe : Hid (∀ (c : Tb) (w1 : World), TabB W w1 c n (fun _ => 0) → Calls Try.prog 14 #[.pointer (some ⟨c.t, 0, none⟩)] w1 (Told (.int .i64 0) w1)) :=
        Lib.hid (fun c w1 h => by
          have := len_at h.is
          rw [cntI_zero fun _ _ => rfl] at this
          exact this)
      have HSz : Hid (∀ (c : Tb) (w1 : World), TabB W w1 c n (fun _ => 0) → Calls Try.prog 19 #[.pointer (some ⟨c.t, 0, none⟩)] w1 (Told (.int .i64 n) w1)) := Lib.hid (fun c w1 h => size_at h.is)
      have HSs : Hid (∀ (c : Tb) (w1 : World), TabB W w1 c n (fun _ => 0) → Calls Try.prog 21 #[.pointer (some ⟨c.t, 0, none⟩)] w1 (GaveN [] w1)) := Lib.hid (fun c w1 h => by
        have := slots_at h.is
        rw [slotsN_zero] at this
        exact this)
      have HFr : Hid (∀ (c : Tb) (w1 : World), TabB W w1 c n (fun _ => 0) → Calls Try.prog 12 #[.pointer (some ⟨c.t, 0, none⟩), .slice (some ⟨w1.heap.size, 0, none⟩) 1 1] (w1.alloc (.cells #[.int .i64 1] 3)) (TabPost (.int .i64 4) c n (fun _ => 0) (w1.alloc (.cells #[.int .i64 1] 3)))) :=
        Lib.hid (fun c w1 h => free_one 1 4 h.is (free_none_is n))
      clear hw h0 h1
      go_enter Try.func5, Try.ntmps5
      go_wp2_with fail
      refine HN.out.mono ?_
      rintro e w1 p
      obtain ⟨c, rfl, h1⟩ := tabB_new p
      have H1 := Lib.hid h1
      clear p h1
      go_wp2_with fail
      refine (HSl.out c w1 H1.out).mono ?_
      rintro e w2 ⟨rfl, rfl⟩
      go_wp2_with fail
      refine (HId.out c w1 H1.out).mono ?_
      rintro e w2 ⟨rfl, rfl⟩
      go_wp2_with fail
      refine (HLe.out c w1 H1.out).mono ?_
      rintro e w2 ⟨rfl, rfl⟩
      go_wp2_with fail
      refine (HSz.out c w1 H1.out).mono ?_
      rintro e w2 ⟨rfl, rfl⟩
      go_wp2_with fail
      refine (HSs.out c w1 H1.out).mono ?_
      rintro e w2 ⟨a, cap, rfl, _, b2⟩
      have H2 := Lib.hid (H1.out.fresh b2)
      clear b2
      go_wp2_with fail
      refine (HFr.out c w2 H2.out).mono ?_
      rintro e w3 p
      obtain ⟨rfl, h3, _⟩ := (H2.out.fresh ((Below.refl _ _).alloc (Nat.le_refl _) _)).post p
      have H3 := Lib.hid h3
      clear p h3
      go_wp2_with fail
      refine (HK.out w3).mono ?_
      rintro e w4 ⟨rfl, b4⟩
      have B4 := Lib.hid (H3.out.bl.trans (b4.mono H3.out.bl.size))
      clear b4
      go_wp2_with fail
      go_ret
      exact ⟨rfl, B4.out⟩
end Go.Proofs.Ythooeehobhegbaa
