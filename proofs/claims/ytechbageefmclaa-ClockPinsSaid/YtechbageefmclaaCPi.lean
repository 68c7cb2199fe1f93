/- ClockPins' walk. -/
import Derived.Test.YtechbageefmclaaCRo
namespace Go.Proofs.Ytechbageefmclaa
set_option maxRecDepth 1000000
open Go.ChangeShapes Go.WideShapes Go.ChangeAt Go.RowKit

/-- All are present, p is pinned. -/
def pI (k p : Nat) : Nat → El := pnd (inI k) p true
theorem pI_at {k p : Nat} (hp : p < k) : pI k p p = ⟨false, true, true⟩ := by unfold pI pnd; rw [upd_at, inI_in hp]
theorem pI_ne {k p j : Nat} (hj : j < k) (h : j ≠ p) : pI k p j = ⟨false, false, true⟩ := by unfold pI pnd; rw [upd_ne _ _ h, inI_in hj]
theorem pI_back {k p : Nat} (_hp : p < k) : pnd (pI k p) p false = inI k := by
  funext j
  unfold pI pnd
  by_cases h : j = p
  · subst h; rw [upd_at, upd_at]; rfl
  · rw [upd_ne _ _ h, upd_ne _ _ h]
/-- Whom the search finds: another one than the pinned. -/
theorem vic_pI {k p h : Nat} (hk : 1 < k) (hp : p < k) (hh : h < k) : ∃ v h', vic k (2 * k) (pI k p) h = (some v, pI k p, h') ∧ h' < k ∧ v ≠ p := by
  obtain ⟨m, hm⟩ : ∃ m, 2 * k = m + 1 + 1 := ⟨2 * k - 2, by omega⟩
  rw [hm]
  by_cases he : h = p
  · subst he
    have hg : goes (pI k h h) = false := by rw [pI_at hp]; rfl
    have hne : (h + 1) % k ≠ h := by
      by_cases hl : h + 1 < k
      · rw [Nat.mod_eq_of_lt hl]; omega
      · rw [show h + 1 = k by omega, Nat.mod_self]; omega
    have hl := Nat.mod_lt (h + 1) (by omega : 0 < k)
    refine ⟨(h + 1) % k, ((h + 1) % k + 1) % k, ?_, Nat.mod_lt _ (by omega), hne⟩
    · rw [vic_miss (by unfold hit; rw [hg]; rfl), look_id hg]
      exact vic_hit (by rw [pI_ne hl hne]; rfl)
  · exact ⟨h, (h + 1) % k, vic_hit (by rw [pI_ne hh he]; rfl), Nat.mod_lt _ (by omega), he⟩
theorem vic_p1 {p h : Nat} (hp : p < 1) (hh : h < 1) : vic 1 (2 * 1) (pI 1 p) h = (none, pI 1 p, h) :=
  vic_none' (.inl hh) fun j hj => by
    obtain rfl : j = p := by omega
    rw [pI_at hp]; rfl
/-- p comes in the round. -/
theorem meets {k p h : Nat} (hp : p < k) (hh : h < k) : ∃ m, m < k ∧ (h + m) % k = p := by
  by_cases hl : h ≤ p
  · exact ⟨p - h, by omega, by rw [show h + (p - h) = p by omega, Nat.mod_eq_of_lt hp]⟩
  · exact ⟨p + k - h, by omega, by rw [show h + (p + k - h) = p + k by omega, Nat.add_mod_right, Nat.mod_eq_of_lt hp]⟩
theorem at_ex (a k : Nat) (hk : 1 ≤ k) : ∃ p : Nat, (a : Int) % (k : Int) = (p : Int) ∧ p < k := ⟨a % k, by rw [Int.natCast_emod], Nat.mod_lt _ (by omega)⟩
set_option maxHeartbeats 4000000 in
theorem clockPins_walk (W : World) (n : Int) (hn : (Lit.int .u8 n).wf = true) (a : Int) (ha : (Lit.int .u8 a).wf = true) (t : Int) (ht : (Lit.int .u8 t).wf = true) : Calls Try.prog 5 #[.int .u8 n, .int .u8 a, .int .u8 t] W fun e W' => e = .returned (.bool true) ∧ Below W.heap.size W W' := by
  obtain ⟨n0, n1⟩ := wf_u8 hn
  obtain ⟨a0, a1⟩ := wf_u8 ha
  obtain ⟨t0, t1⟩ := wf_u8 ht
  obtain ⟨n, rfl⟩ := Int.eq_ofNat_of_zero_le n0
  obtain ⟨a, rfl⟩ := Int.eq_ofNat_of_zero_le a0
  obtain ⟨t, rfl⟩ := Int.eq_ofNat_of_zero_le t0
  obtain ⟨k, hk, hk1, hk2⟩ := size_ex n
  obtain ⟨p, hp, hpk⟩ := at_ex a k hk1
  have HK := Lib.hid (fun w => known_any w)
  have HN := Lib.hid (new_yes k W (by omega))
  have HI : Hid (∀ (c : Ck) (w1 : World) (i : Nat), i < k → ClkB W w1 c k (inI i) 0 → Calls Try.prog 14 #[.pointer (some ⟨c.t, 0, none⟩), .int .i64 i, .bool true] w1 (BPost W (.int .i64 0) c k (inI (i + 1)) 0)) := Lib.hid fun c w1 i hi a => in_next hi a
  have HP1 : Hid (∀ (c : Ck) (w1 : World), ClkB W w1 c k (inI k) 0 → Calls Try.prog 16 #[.pointer (some ⟨c.t, 0, none⟩), .int .i64 p, .bool true] w1 (BPost W (.int .i64 0) c k (pI k p) 0)) := Lib.hid fun c w1 a => pin_b p true hpk (by rw [inI_in hpk]) a
  have HP2 : Hid (∀ (c : Ck) (w1 : World) (h : Nat), ClkB W w1 c k (pI k p) h → Calls Try.prog 16 #[.pointer (some ⟨c.t, 0, none⟩), .int .i64 p, .bool false] w1 (BPost W (.int .i64 0) c k (inI k) h)) := Lib.hid fun c w1 h a => by
    have := pin_b p false hpk (by rw [pI_at hpk]) a
    rwa [pI_back hpk] at this
  obtain ⟨big, hbig⟩ : ∃ big : Bool, decide (1 < k) = big := ⟨_, rfl⟩
  have HV1 : Hid (∀ (c : Ck) (w1 : World) (h : Nat), ClkB W w1 c k (pI k p) h → Calls Try.prog 13 #[.pointer (some ⟨c.t, 0, none⟩)] w1 fun e w2 => ∃ v h', e = .returned (.tuple #[.int .i64 v, .bool big]) ∧ ClkB W w2 c k (pI k p) h' ∧ (big = true → ((v : Int) == (p : Int)) = false)) := Lib.hid fun c w1 h a => by
    have hh : h < k := by have := a.is.hand; omega
    by_cases hb : 1 < k
    · obtain rfl : big = true := by rw [← hbig]; exact decide_eq_true hb
      obtain ⟨v, h', hv, _, hne⟩ := vic_pI hb hpk hh
      exact (victim_b _ _ hv a).mono fun _ _ q => ⟨v, h', q.1, q.2, fun _ => by simp; omega⟩
    · obtain rfl : big = false := by rw [← hbig]; exact decide_eq_false hb
      obtain rfl : k = 1 := by omega
      exact (victim_b _ _ (vic_p1 hpk hh) a).mono fun _ _ q => ⟨((0 : Nat) : Int), _, q.1, q.2, fun h => by cases h⟩
  have HV2 : Hid (∀ (c : Ck) (w1 : World) (h : Nat), h < k → ClkB W w1 c k (inI k) h → Calls Try.prog 13 #[.pointer (some ⟨c.t, 0, none⟩)] w1 (BPost W (.tuple #[.int .i64 h, .bool true]) c k (inI k) ((h + 1) % k))) := Lib.hid fun c w1 h hh a => victim_b _ _ (vic_inI hh) a
  have HM : Hid (∀ h, h < k → ∃ m, m < k ∧ (h + m) % k = p) := Lib.hid fun h hh => meets hpk hh
  have hbig' : decide ((1 : Int) < (k : Int)) = big := by rw [← hbig]; exact decide_eq_decide.2 (by omega)
  clear hn ha ht hpk
  have hkp : (0 : Int) < k := by omega
  go_enter Try.func5, Try.ntmps5
  go_wp2_with fail
  refine HN.out.mono ?_
  rintro e w1 ⟨c, rfl, a1⟩
  have H1 : Hid (ClkB W w1 c k (inI 0) 0) := by rw [inI_zero]; exact a1
  clear a1 HN
  go_wp2_with fail
  simp only [hp]
  go_loopw [11] (fun s11 wr => ∃ i : Nat, i ≤ k ∧ s11 = .int .i64 i ∧ Hid (ClkB W wr c k (inI i) 0)) (fun s11 _ => k - (intOf s11).toNat)
  case atStart => exact ⟨0, by omega, rfl, H1⟩
  case round =>
    clear H1
    obtain ⟨i, hi, rfl, H1⟩ := hrel
    by_cases hlt : i < k
    · have hlt' : (i : Int) < k := by omega
      go_wp2_with fail
      refine (HI.out c wr i hlt H1.out).mono ?_
      rintro e w2 ⟨rfl, a2⟩
      have H2 := Lib.hid a2
      clear a2 H1
      go_wp2_with fail
      go_roundw
      case rel => exact ⟨i + 1, by omega, by go_num, H2⟩
      case measure => simp [intOf]; omega
    · obtain rfl : i = k := by omega
      clear hlt
      go_wp2_with fail
      refine (HP1.out c wr H1.out).mono ?_
      rintro e w2 ⟨rfl, a2⟩
      have H2 := Lib.hid a2
      clear a2 H1
      go_wp2_with fail
      go_loopw [12] (fun s12 wx => ∃ j h : Nat, j ≤ t ∧ s12 = .int .i64 j ∧ Hid (ClkB W wx c i (pI i p) h)) (fun s12 _ => t - (intOf s12).toNat)
      case atStart => exact ⟨0, 0, by omega, rfl, H2⟩
      case round =>
        clear H2
        obtain ⟨j, h, hj, rfl, H2⟩ := hrel
        by_cases hlt : j < t
        · have hlt' : (j : Int) < t := by omega
          go_wp2_with fail
          refine (HV1.out c wr h H2.out).mono ?_
          rintro e w3 ⟨v, h', rfl, a3, hv⟩
          have H3 := Lib.hid a3
          clear a3 H2
          cases big with
          | true =>
            have hv' := hv rfl
            clear hv
            go_wp2_with fail
            go_roundw
            case rel => exact ⟨j + 1, h', by omega, by go_num, H3⟩
            case measure => simp [intOf]; omega
          | false =>
            clear hv
            go_wp2_with fail
            go_roundw
            case rel => exact ⟨j + 1, h', by omega, by go_num, H3⟩
            case measure => simp [intOf]; omega
        · obtain rfl : j = t := by omega
          have hh : h < i := by have := H2.out.is.hand; omega
          clear hlt
          go_wp2_with fail
          refine (HP2.out c wr h H2.out).mono ?_
          rintro e w3 ⟨rfl, a3⟩
          have H3 : Hid (ClkB W w3 c i (inI i) ((h + 0) % i)) := by rw [Nat.add_zero, Nat.mod_eq_of_lt hh]; exact a3
          have HMe := Lib.hid (HM.out h hh)
          clear a3 H2 HM hh
          go_wp2_with fail
          go_loopw [15, 16] (fun s15 s16 wy => ∃ (m : Nat) (g : Bool), m ≤ i ∧ s15 = .bool g ∧ s16 = .int .i64 m ∧ Hid (ClkB W wy c i (inI i) ((h + m) % i)) ∧ Hid (g = true ∨ ∀ q, q < m → (h + q) % i ≠ p)) (fun _ s16 _ => i - (intOf s16).toNat)
          case atStart => exact ⟨0, false, by omega, rfl, rfl, H3, Lib.hid (.inr fun q hq => by omega)⟩
          case round =>
            clear H3
            obtain ⟨m, g, hm, rfl, rfl, H3, HG⟩ := hrel
            by_cases hlt : m < i
            · have hlt' : (m : Int) < i := by omega
              have hz : (h + m) % i < i := Nat.mod_lt _ (by omega)
              obtain ⟨z, hz'⟩ : ∃ z, (h + m) % i = z := ⟨_, rfl⟩
              rw [hz'] at H3 hz
              have HZ := Lib.hid hz'
              clear hz'
              go_wp2_with fail
              refine (HV2.out c wr z hz H3.out).mono ?_
              rintro e w4 ⟨rfl, a4⟩
              have H4 : Hid (ClkB W w4 c i (inI i) ((h + (m + 1)) % i)) := by
                have := a4
                rw [← HZ.out, Nat.mod_add_mod, Nat.add_assoc] at this
                exact this
              clear a4 H3
              cases g with
              | true =>
                clear HG HZ
                go_wp2_with fail
                go_roundw
                case rel => exact ⟨m + 1, true, by omega, rfl, by go_num, H4, Lib.hid (.inl rfl)⟩
                case measure => simp [intOf]; omega
              | false =>
                by_cases hzp : z = p
                · subst hzp
                  clear HG HZ
                  go_wp2_with fail
                  go_roundw
                  case rel => exact ⟨m + 1, true, by omega, by simp, by go_num, H4, Lib.hid (.inl rfl)⟩
                  case measure => simp [intOf]; omega
                · have hd : ((z : Int) == (p : Int)) = false := by simp; omega
                  have HG' : Hid ((false : Bool) = true ∨ ∀ q, q < m + 1 → (h + q) % i ≠ p) := Lib.hid (.inr fun q hq => by
                    by_cases hqm : q = m
                    · rw [hqm, HZ.out]; exact hzp
                    · rcases HG.out with hg | hg
                      · cases hg
                      · exact hg q (by omega))
                  clear HG HZ hzp
                  go_wp2_with fail
                  go_roundw
                  case rel => exact ⟨m + 1, false, by omega, rfl, by go_num, H4, HG'⟩
                  case measure => simp [intOf]; omega
            · obtain rfl : m = i := by omega
              have hg : g = true := by
                rcases HG.out with hg | hg
                · exact hg
                · obtain ⟨q, hq1, hq2⟩ := HMe.out
                  exact absurd hq2 (hg q hq1)
              subst hg
              clear HG hlt
              go_wp2_with fail
              refine (HK.out _).mono ?_
              rintro e w6 ⟨rfl, b6⟩
              have B6 := Lib.hid (H3.out.fresh b6)
              clear b6
              go_wp2_with fail
              go_ret
              exact ⟨rfl, B6.out.bl⟩
end Go.Proofs.Ytechbageefmclaa
