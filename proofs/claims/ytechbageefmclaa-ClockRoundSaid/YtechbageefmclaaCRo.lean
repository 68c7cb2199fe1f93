/- ClockRound's walk. -/
import Derived.Test.YtechbageefmclaaCLay
namespace Go.Proofs.Ytechbageefmclaa
set_option maxRecDepth 1000000
open Go.ChangeShapes Go.WideShapes Go.ChangeAt Go.RowKit

theorem vic_inI {k h : Nat} (hh : h < k) : vic k (2 * k) (inI k) h = (some h, inI k, (h + 1) % k) := by
  obtain ⟨m, hm⟩ : ∃ m, 2 * k = m + 1 := ⟨2 * k - 1, by omega⟩
  rw [hm]
  exact vic_hit (by rw [inI_in hh]; rfl)
/-- How many elements the laws' clocks have. -/
theorem size_ex (n : Nat) : ∃ k : Nat, 1 + (n : Int) % 20 = (k : Int) ∧ 1 ≤ k ∧ k ≤ 20 := ⟨1 + n % 20, by omega, by omega, by omega⟩
set_option maxHeartbeats 4000000 in
theorem clockRound_walk (W : World) (n : Int) (hn : (Lit.int .u8 n).wf = true) (t : Int) (ht : (Lit.int .u8 t).wf = true) : Calls Try.prog 6 #[.int .u8 n, .int .u8 t] W fun e W' => e = .returned (.bool true) ∧ Below W.heap.size W W' := by
  obtain ⟨n0, n1⟩ := wf_u8 hn
  obtain ⟨t0, t1⟩ := wf_u8 ht
  obtain ⟨n, rfl⟩ := Int.eq_ofNat_of_zero_le n0
  obtain ⟨t, rfl⟩ := Int.eq_ofNat_of_zero_le t0
  obtain ⟨k, hk, hk1, hk2⟩ := size_ex n
  have HK := Lib.hid (fun w => known_any w)
  have HN := Lib.hid (new_yes k W (by omega))
  have HI : Hid (∀ (c : Ck) (w1 : World) (i : Nat), i < k → ClkB W w1 c k (inI i) 0 → Calls Try.prog 14 #[.pointer (some ⟨c.t, 0, none⟩), .int .i64 i, .bool true] w1 (BPost W (.int .i64 0) c k (inI (i + 1)) 0)) := Lib.hid fun c w1 i hi a => in_next hi a
  have HH : Hid (∀ (c : Ck) (w1 : World) (h : Nat), ClkB W w1 c k (inI k) h → Calls Try.prog 12 #[.pointer (some ⟨c.t, 0, none⟩)] w1 (Told (.int .i64 h) w1)) := Lib.hid fun c w1 h a => hand_at a.is
  have HV : Hid (∀ (c : Ck) (w1 : World) (h : Nat), h < k → ClkB W w1 c k (inI k) h → Calls Try.prog 13 #[.pointer (some ⟨c.t, 0, none⟩)] w1 (BPost W (.tuple #[.int .i64 h, .bool true]) c k (inI k) ((h + 1) % k))) := Lib.hid fun c w1 h hh a => victim_b _ _ (vic_inI hh) a
  clear hn ht
  go_enter Try.func6, Try.ntmps6
  go_wp2_with fail
  refine HN.out.mono ?_
  rintro e w1 ⟨c, rfl, a1⟩
  have H1 : Hid (ClkB W w1 c k (inI 0) 0) := by rw [inI_zero]; exact a1
  clear a1 HN
  go_wp2_with fail
  go_loopw [8] (fun s8 wr => ∃ i : Nat, i ≤ k ∧ s8 = .int .i64 i ∧ Hid (ClkB W wr c k (inI i) 0)) (fun s8 _ => k - (intOf s8).toNat)
  case atStart => exact ⟨0, by omega, rfl, H1⟩
  case round =>
    clear H1
    obtain ⟨i, hi, rfl, H1⟩ := hrel
    by_cases hlt : i < k
    · have hlt' : (i : Int) < k := by omega
      go_wp2_with fail
      refine (HI.out c wr i hlt H1.out).mono ?_
      rintro e w2 ⟨rfl, a2⟩
      have H2 := Lib.hid a2
      clear a2 H1
      go_wp2_with fail
      go_roundw
      case rel => exact ⟨i + 1, by omega, by go_num, H2⟩
      case measure => simp [intOf]; omega
    · obtain rfl : i = k := by omega
      have H2 : Hid (ClkB W wr c i (inI i) (0 % i)) := by rw [Nat.zero_mod]; exact H1.out
      clear H1 hlt
      go_wp2_with fail
      go_loopw [9] (fun s9 wx => ∃ j : Nat, j ≤ t ∧ s9 = .int .i64 j ∧ Hid (ClkB W wx c i (inI i) (j % i))) (fun s9 _ => t - (intOf s9).toNat)
      case atStart => exact ⟨0, by omega, rfl, H2⟩
      case round =>
        clear H2
        obtain ⟨j, hj, rfl, H2⟩ := hrel
        by_cases hlt : j < t
        · have hlt' : (j : Int) < t := by omega
          obtain ⟨h, hh⟩ : ∃ h, j % i = h := ⟨_, rfl⟩
          have hm : (j : Int) % (i : Int) = (h : Int) := by rw [← hh, Int.natCast_emod]
          have hhi : h < i := by rw [← hh]; exact Nat.mod_lt _ (by omega)
          have hip : (0 : Int) < i := by omega
          rw [hh] at H2
          have HX := Lib.hid hh
          have HQ : Hid (∀ q, Calls Try.prog 12 #[.pointer (some ⟨c.t, 0, none⟩)] (wr.drewN q) fun e w' => e = .returned (.int .i64 h) ∧ w' = wr.drewN q) := Lib.hid fun q => (HH.out c _ h (H2.out.drewN q)).mono fun _ _ p => ⟨p.1, p.2.symm⟩
          clear hh
          go_wp2_with fail
          go_quiet (first | (go_at_call 12; exact Calls.quiet_of_same (HQ.out _)))
          go_wp2_with fail
          refine (HV.out c _ h hhi (H2.out.drewN nq)).mono ?_
          rintro e w3 ⟨rfl, a3⟩
          have H3 : Hid (ClkB W w3 c i (inI i) ((j + 1) % i)) := by
            have := a3
            rw [← HX.out, Nat.mod_add_mod] at this
            exact this
          clear a3 H2 HX HQ
          go_wp2_with fail
          go_roundw
          case rel => exact ⟨j + 1, by omega, by go_num, H3⟩
          case measure => simp [intOf]; omega
        · obtain rfl : j = t := by omega
          go_wp2_with fail
          refine (HK.out _).mono ?_
          rintro e w6 ⟨rfl, b6⟩
          have B6 := Lib.hid (H2.out.fresh b6)
          clear b6
          go_wp2_with fail
          go_ret
          exact ⟨rfl, B6.out.bl⟩
end Go.Proofs.Ytechbageefmclaa
