/- What the function Victim of package clock does. No condition but those that each statement names. -/
import Derived.Test.YtechbageefmclaaCTo
namespace Go.Proofs.Ytechbageefmclaa
set_option maxRecDepth 1000000
open Go.ChangeShapes Go.WideShapes Go.ChangeAt Go.RowKit

/-- What Victim tells. -/
def vicV (r : Option Nat) : Value := .tuple #[.int .i64 ((r.getD 0 : Nat) : Int), .bool r.isSome]
/-- In the search: so much is left of it, and that gives what the whole gives. -/
structure VicAt (w : World) (c : Ck) (n K : Nat) (R : Option Nat × (Nat → El) × Nat) (wr : World) : Prop where
  ex : ∃ E h, ClkAt wr c n E h ∧ vic n K E h = R
  on : Only (CF c) w wr
section
variable {w w' : World} {c : Ck} {n h : Nat} {E E' : Nat → El} {F N : Nat → Prop}
theorem victim_nil (w : World) : Calls Try.prog 13 #[.pointer none] w (Told (vicV none) w) := by
  go_enter Try.func13, Try.ntmps13
  go_wp2_with fail
  go_step3
  go_wp2_with fail
  (try rw [Exit.noGoto_ret])
  go_ret2
  exact ⟨rfl, rfl⟩
theorem fuel_split {r n : Nat} (h : r < 2) : (2 - r) * n = (2 - (r + 1)) * n + n := by
  match r, h with
  | 0, _ => omega
  | 1, _ => omega
set_option maxHeartbeats 4000000 in
theorem victim_at (r : Option Nat) (h' : Nat) (a : ClkAt w c n E h) (hv : vic n (2 * n) E h = (r, E', h')) : Calls Try.prog 13 #[.pointer (some ⟨c.t, 0, none⟩)] w (ClkPost (vicV r) c n E' h' w) := by
  have hs := a.small
  have HR : Hid (VicAt w c n ((2 - 0) * n) (r, E', h') w) := ⟨⟨E, h, a, hv⟩, Only.refl _ _⟩
  have HFS : Hid (∀ r, r < 2 → (2 - r) * n = (2 - (r + 1)) * n + n) := Lib.hid fun r hr => fuel_split hr
  have HP : Hid (∀ (E : Nat → El) (h : Nat) (w : World), h < n → ClkAt w c n E h → Calls Try.prog 18 #[.pointer (some ⟨c.t, 0, none⟩)] w (ClkPost (.int .i64 h) c n E ((h + 1) % n) w)) := Lib.hid fun E h w hh a => pass_at a hh
  have HF : Hid (∀ (E : Nat → El) (h k : Nat) (w : World), k < n → ClkAt w c n E h → Calls Try.prog 17 #[.pointer (some ⟨c.t, 0, none⟩), .int .i64 k] w (Told (.pointer (some ⟨c.e, k * 3, none⟩)) w)) := Lib.hid fun E h k w hk a => by
    have := find_any (k : Int) a
    rwa [place_in hk] at this
  have HSp : Hid (∀ (E : Nat → El) (h k : Nat) (w : World), k < n → (E k).i = true → ClkAt w c n E h → Calls Try.prog 19 #[.pointer (some ⟨c.e, k * 3, none⟩)] w (ClkPost (.bool (!hit (E k))) c n (look E k) h w)) := Lib.hid fun E h k w hk hi a => spared_at k hk a hi
  clear a hv
  go_enter Try.func13, Try.ntmps13
  go_wp2_with fail
  go_step3
  go_wp2_with fail
  go_step3
  go_wp2_with fail
  go_loopw [4, 5, 10] (fun s4 s5 s10 wr => ∃ q : Nat, q ≤ 2 ∧ s4 = .int .i64 0 ∧ s5 = .bool false ∧ s10 = .int .i64 q ∧ Hid (VicAt w c n ((2 - q) * n) (r, E', h') wr)) (fun _ _ s10 _ => 2 - (intOf s10).toNat)
  case atStart => exact ⟨0, by omega, rfl, rfl, rfl, HR⟩
  case round =>
    clear HR
    obtain ⟨q, hq, rfl, rfl, rfl, HQ⟩ := hrel
    obtain ⟨E0, h0, a0, hv0⟩ := HQ.out.ex
    by_cases hlt : q < 2
    · have hlt' : (q : Int) < 2 := by omega
      have c0 := a0.c0
      obtain ⟨M, hM⟩ : ∃ M, (2 - (q + 1)) * n = M := ⟨_, rfl⟩
      have HM : Hid (VicAt w c n (M + (n - 0)) (r, E', h') wr) := by
        have := HQ.out
        rw [HFS.out q hlt, hM] at this
        exact this
      have HE := Lib.hid hM
      clear hM hv0 a0 HQ
      go_wp2_with fail
      go_loopw [4, 5, 17] (fun s4 s5 s17 wx => ∃ j : Nat, j ≤ n ∧ s4 = .int .i64 0 ∧ s5 = .bool false ∧ s17 = .int .i64 j ∧ Hid (VicAt w c n (M + (n - j)) (r, E', h') wx)) (fun _ _ s17 _ => n - (intOf s17).toNat)
      case atStart => exact ⟨0, Nat.zero_le _, rfl, rfl, rfl, HM⟩
      case round =>
        clear HM c0
        obtain ⟨j, hj, rfl, rfl, rfl, HJ⟩ := hrel
        by_cases hjn : j < n
        · have hjn' : (j : Int) < n := by omega
          obtain ⟨E1, h1, a1, hv1⟩ := HJ.out.ex
          have hh1 : h1 < n := by have := a1.hand; omega
          rw [show M + (n - j) = (M + (n - (j + 1))) + 1 by omega] at hv1
          have HO := Lib.hid HJ.out.on
          have H1 := Lib.hid a1
          have HV := Lib.hid hv1
          clear HJ a1 hv1
          go_wp2_with fail
          refine (HP.out E1 h1 _ hh1 H1.out).mono ?_
          rintro e w2 ⟨rfl, a2, o2⟩
          have H2 := Lib.hid a2
          have HO2 := Lib.hid (HO.out.trans o2)
          clear a2 o2 HO H1
          go_wp2_with fail
          refine (HF.out E1 _ h1 _ hh1 H2.out).mono ?_
          rintro e w3 ⟨rfl, rfl⟩
          have e2 := (H2.out.el h1 hh1).2.2
          cases hb : (E1 h1).i with
          | false =>
            rw [hb] at e2
            have HJ' : Hid (VicAt w c n (M + (n - (j + 1))) (r, E', h') w2) := by
              have hg : goes (E1 h1) = false := by unfold goes; rw [hb]; rfl
              have hh : hit (E1 h1) = false := by unfold hit; rw [hg]; rfl
              have hv := HV.out
              rw [vic_miss hh, look_id hg] at hv
              exact ⟨⟨_, _, H2.out, hv⟩, HO2.out⟩
            clear hb HV H2 HO2
            go_wp2_with fail
            go_roundw
            case rel => exact ⟨j + 1, by omega, rfl, rfl, by go_num, HJ'⟩
            case measure => simp [intOf]; omega
          | true =>
            rw [hb] at e2
            have HC := Lib.hid (HSp.out E1 _ h1 _ hh1 hb H2.out)
            clear hb
            cases ht : hit (E1 h1) with
            | true =>
              rw [ht] at HC
              have HD : Hid (r = some h1 ∧ E' = E1 ∧ h' = (h1 + 1) % n ∧ look E1 h1 = E1) := by
                have hv := HV.out
                rw [vic_hit ht] at hv
                simp only [Prod.mk.injEq] at hv
                obtain ⟨rfl, rfl, rfl⟩ := hv
                refine ⟨rfl, rfl, rfl, ?_⟩
                unfold look
                have hg : goes (E1 h1) = true := by unfold hit at ht; simp at ht; exact ht.1
                have htt : (E1 h1).t = false := by unfold hit at ht; simp at ht; exact ht.2
                rw [if_pos hg, ← htt]
                exact upd_same E1 h1
              clear HV ht
              go_wp2_with fail
              refine HC.out.mono ?_
              rintro e w4 ⟨rfl, a4, o4⟩
              have H4 := Lib.hid a4
              have HO4 := Lib.hid (HO2.out.trans o4)
              clear a4 o4 HO2
              go_wp2_with fail
              (try rw [Exit.noGoto_ret])
              go_ret2
              obtain ⟨rfl, rfl, rfl, hl⟩ := HD.out
              exact ⟨rfl, by have := H4.out; rwa [hl] at this, HO4.out⟩
            | false =>
              rw [ht] at HC
              have HV' : Hid (vic n (M + (n - (j + 1))) (look E1 h1) ((h1 + 1) % n) = (r, E', h')) := by
                have hv := HV.out
                rw [vic_miss ht] at hv
                exact hv
              clear HV ht
              go_wp2_with fail
              refine HC.out.mono ?_
              rintro e w4 ⟨rfl, a4, o4⟩
              have HJ' : Hid (VicAt w c n (M + (n - (j + 1))) (r, E', h') w4) := ⟨⟨_, _, a4, HV'.out⟩, HO2.out.trans o4⟩
              clear a4 o4 HO2
              go_wp2_with fail
              go_roundw
              case rel => exact ⟨j + 1, by omega, rfl, rfl, by go_num, HJ'⟩
              case measure => simp [intOf]; omega
        · obtain rfl : j = n := by omega
          have HQ' : Hid (VicAt w c j ((2 - (q + 1)) * j) (r, E', h') wr) := by
            have := HJ.out
            rw [show M + (j - j) = M by omega, ← HE.out] at this
            exact this
          clear HJ HE
          go_wp2_with fail
          go_roundw
          case rel => exact ⟨q + 1, by omega, rfl, rfl, by go_num, HQ'⟩
          case measure => simp [intOf]; omega
    · obtain rfl : q = 2 := by omega
      rw [show (2 - 2) * n = 0 by omega] at hv0
      simp only [vic, Prod.mk.injEq] at hv0
      obtain ⟨rfl, rfl, rfl⟩ := hv0
      have HA := Lib.hid a0
      have HO := Lib.hid HQ.out.on
      clear a0 HQ
      go_wp2_with fail
      (try rw [Exit.noGoto_ret])
      go_ret2
      exact ⟨rfl, HA.out, HO.out⟩
end
end Go.Proofs.Ytechbageefmclaa
