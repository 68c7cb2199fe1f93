/- The walk of FlatNext: from one to the next all objects are met. -/
import Derived.Test.YtmaeoefimkppoaaFLw
import Derived.BigQuiet
import Derived.Deep.QuietTactic
import Derived.Deep.DeepCutAuto
import Derived.Deep.CutRange
namespace Go.Proofs.Ytmaeoefimkppoaa.Fl
set_option maxRecDepth 1000000
open Go.ChangeShapes Go.WideShapes Go.ChangeAt Go.RowKit
open Go.Proofs.Ytmaeoefimkppoaa.Wd

set_option maxHeartbeats 1000000 in
theorem flatNext_walk (W : World) (v : Value) (L : List Todo) (h : Dos W v L) (hl : L.length ≤ 5000000000000) :
    Calls Try.prog 9 #[v] W fun e W' => e = .returned (.bool true) ∧ Below W.heap.size W W' := by
  have HV := Lib.hid h
  have HLg := Lib.hid (long_any v L W h hl)
  have HK := Lib.hid (fun w => known_any w)
  have H0 := Lib.hid (mem_new W (· < W.heap.size) (fun _ h => h))
  have HW : Hid (Below W.heap.size W (newW W)) := Lib.hid (below_new W _)
  have hsz : W.heap.size < (newW W).heap.size := by unfold newW; simp
  obtain ⟨a, c, rfl, _⟩ := h
  go_enter Try.func9, Try.ntmps9
  go_wp2_with fail
  refine HLg.out.mono ?_
  rintro e w0 ⟨b, rfl, hb, rfl⟩
  cases b with
  | true =>
    go_wp2_with (go_at_call 13; refine (HK.out _).mono ?_; rintro e w1 ⟨rfl, hb1⟩; have B1 := Lib.hid hb1)
    go_ret
    exact ⟨rfl, B1.out⟩
  | false =>
  have hL := hb rfl
  clear hb HLg
  go_wp2_with fail
  refine (new10_any W).mono ?_
  rintro e w0 ⟨rfl, rfl⟩
  generalize newW W = w0 at *
  go_wp2
  go_loopw [4] (fun k wr => ∃ j : Nat, j ≤ L.length ∧ k = .int .i64 j ∧ Keeps (· < W.heap.size) w0 wr ∧ ∃ E, MemB (· < W.heap.size) wr W.heap.size E ∧ E.length ≤ j) (fun k _ => L.length - (RowKit.intOf k).toNat)
  case atStart => exact ⟨0, Nat.zero_le _, rfl, Keeps.refl _ _, [], H0.out, Nat.le_refl _⟩
  case round =>
    obtain ⟨j, hj, rfl, hk, E, hm, hE⟩ := hrel
    have M1 := Lib.hid hm
    have K1 := Lib.hid hk
    clear hm hk
    by_cases hlt : j < L.length
    · have hBW : Below W.heap.size W wr := HW.out.trans (K1.out.below (fun g hg => hg) (by omega))
      obtain ⟨b', off, c', ⟨tk, ta, tb, tc⟩, he, _, hwf, ⟨x0, x1, x2, x3⟩, _⟩ := (HV.out.fresh hBW (Nat.le_refl _)).at_ hlt
      injection he with e1 e2 e3
      subst e1 e3
      have hd : decide ((j : Int) < L.length) = true := by simpa using hlt
      have hw2 : IntKind.i64.wrap ((j : Int) + 1) = (j : Int) + 1 := by rw [IntKind.wrap_i64]; omega
      have HD := Lib.hid (done_any M1.out (by omega) ⟨tk, ta, tb, tc⟩ hwf)
      simp only at x0 x1 x2 x3
      clear e2 hwf
      go_wp2_with (go_at_call 15; refine HD.out.mono ?_; rintro e w3 ⟨z, u, rfl, _, hm, hk⟩; have M3 := Lib.hid hm; have K3 := Lib.hid hk; clear hm hk)
      exact ⟨⟨j + 1, by omega, by go_num, K1.out.trans K3.out, _, M3.out, by have := dF_len E ⟨tk, ta, tb, tc⟩; omega⟩, by simp [RowKit.intOf]; omega⟩
    · obtain rfl : j = L.length := by omega
      go_wp2_with fail
      refine (all_any M1.out).mono ?_
      rintro e w2 ⟨v2, rfl, hown, hb2⟩
      have M2 : Hid (MemB (· < W.heap.size) w2 W.heap.size E) := Lib.hid (M1.out.fresh hb2)
      have K2 : Hid (Keeps (· < W.heap.size) w0 w2) := Lib.hid (K1.out.trans (Keeps.of_below hb2))
      have hlen : (twoL (ids E)).length = (ids E).length := by simp [twoL]
      rw [hlen] at hown
      obtain ⟨a2, c2, rfl⟩ := own_form hown
      have HX : Hid (∀ w', Below w2.heap.size w2 w' → 0 < (ids E).length → ∃ g, a2 = some ⟨g, 0, none⟩ ∧ ∀ j, j < (ids E).length → w'.cell? ⟨g, j, none⟩ = some (.int .i64 (2 * (ids E).getD j 0))) := Lib.hid fun w' hb hn => by
        obtain ⟨g, cc, he⟩ := own_at hown hn
        injection he with e1 e2 e3
        subst e1 e3
        refine ⟨g, rfl, fun j hj => ?_⟩
        rw [← two_at hj]
        exact (own_cells (own_kept hown hb)).1 j _ (getD_map (by omega))
      have HI : Hid (∀ j, j < (ids E).length → 1 ≤ (ids E).getD j 0 ∧ (ids E).getD j 0 ≤ E.length ∧ (at_ E ((ids E).getD j 0)).isSome = true) := Lib.hid fun j hj => ⟨(ids_rng (ids_at hj)).1, (ids_rng (ids_at hj)).2, mem_ids.1 (ids_at hj)⟩
      have HR : Hid (∀ j, j + 1 < (ids E).length → (ids E).getD j 0 < (ids E).getD (j + 1) 0) := Lib.hid fun j hj => rise_next (ids_rise E) hj
      have HOb : Hid (∀ w1 (i : Nat), Below w2.heap.size w2 w1 → 1 ≤ i → i ≤ 1000 → Calls Try.prog 22 #[.pointer (some ⟨W.heap.size, 0, none⟩), .int .i64 (2 * (i : Int))] w1 fun e w' => ∃ c k a1 n1 c1 a2 n2 c2, e = .returned (.tuple #[.agg #[.int .i64 c, .int .i64 k, .slice a1 n1 c1, .slice a2 n2 c2], .int .i64 (if (at_ E i).isSome = true then 0 else 4)]) ∧ Below w1.heap.size w1 w') := Lib.hid fun w1 i hb h1 h2 => (obj_form (M2.out.fresh hb) (2 * (i : Int)) ⟨by omega, by omega⟩).mono fun e w' ⟨a1, n1, c1, a2, n2, c2, he, _, hb'⟩ => by
        rw [err_two (by omega) (by omega)] at he
        exact ⟨_, _, _, _, _, _, _, _, he, hb'⟩
      have HMd : Hid (∀ w1, Below w2.heap.size w2 w1 → Calls Try.prog 18 #[.pointer (some ⟨W.heap.size, 0, none⟩)] w1 fun e w' => e = .returned (.int .i64 (E.length : Nat)) ∧ w1 = w') := Lib.hid fun w1 hb => made_any (M2.out.fresh hb)
      have HN : Hid (∀ w1, Below w2.heap.size w2 w1 → Calls Try.prog 37 #[.pointer (some ⟨W.heap.size, 0, none⟩), .int .i64 (2 * ((E.length : Int) + 1))] w1 fun e w' => e = .returned (.tuple #[.int .i64 0, .bool false]) ∧ w1 = w') := Lib.hid fun w1 hb => (next_any (M2.out.fresh hb) (2 * ((E.length : Int) + 1)) ⟨by omega, by omega⟩).mono fun e w' ⟨he, hw⟩ => by
        rw [(nxt_last (by omega)).1, (nxt_last (by omega)).2] at he
        exact ⟨he, hw⟩
      have HC : Hid ((∀ k, cntE E (k + 1) = cntE E k + if (at_ E ((k + 1 : Nat) : Int)).isSome = true then 1 else 0) ∧ cntE E 0 = 0 ∧ cntE E E.length = (ids E).length) := Lib.hid ⟨cntE_next E, rfl, cntE_all E⟩
      have HCl : Hid (∀ k, cntE E k ≤ k) := Lib.hid (cntE_le E)
      have hnl : (ids E).length ≤ E.length := ids_le E
      clear hown hlen M1 K1
      obtain ⟨n, hn⟩ : ∃ n, (ids E).length = n := ⟨_, rfl⟩
      rw [hn] at HX HI HR HC hnl ⊢
      obtain ⟨q, hq⟩ : ∃ q, E.length = q := ⟨_, rfl⟩
      rw [hq] at HI HMd HN HC hnl hE
      have hq2 : q ≤ 150 := by omega
      generalize ids E = ys at *
      clear hn hq hE hb2 M2
      go_wp2
      go_loopw [6] (fun k wr => ∃ j : Nat, j ≤ n ∧ k = .int .i64 j ∧ Below w2.heap.size w2 wr) (fun k _ => n - (RowKit.intOf k).toNat)
      case atStart => exact ⟨0, Nat.zero_le _, rfl, Below.refl _ _⟩
      case round =>
        obtain ⟨j, hj, rfl, hb⟩ := hrel
        have B1 := Lib.hid hb
        clear hb
        by_cases hlt : j < n
        · obtain ⟨g, rfl, hx⟩ := HX.out _ B1.out (by omega)
          obtain ⟨i1, i2, i3⟩ := HI.out j hlt
          obtain ⟨i, hi⟩ := Int.eq_ofNat_of_zero_le (show 0 ≤ ys.getD j 0 by omega)
          rw [hi] at i1 i2 i3
          have HO := Lib.hid (HOb.out _ i B1.out (by omega) (by omega))
          rw [i3, if_pos rfl] at HO
          have xj := hx j hlt
          rw [hi] at xj
          have hd : decide ((j : Int) < n) = true := by simpa using hlt
          have hw2 : IntKind.i64.wrap ((j : Int) + 1) = (j : Int) + 1 := by rw [IntKind.wrap_i64]; omega
          have hwq : IntKind.i64.wrap (2 * (q : Int)) = 2 * (q : Int) := by rw [IntKind.wrap_i64]; omega
          have hq3 : decide (q < i) = false := by simp; omega
          have HQ := Lib.hid hq3
          clear i3 hx
          go_upto_region 15 with (go_at_call 22; refine HO.out.mono ?_; rintro e w3 ⟨oc, ok, a1, n1, c1, a3, n3, c3, rfl, hb3⟩)
          have B3 : Hid (Below w2.heap.size w2 (w3.alloc (.cells #[.int .i64 oc, .int .i64 ok, .slice a1 n1 c1, .slice a3 n3 c3] 33))) := Lib.hid (B1.out.trans ((hb3.trans ((below_new w3 _).mono hb3.size)).mono B1.out.size))
          clear hb3 HO B1
          generalize w3.alloc (.cells #[.int .i64 oc, .int .i64 ok, .slice a1 n1 c1, .slice a3 n3 c3] 33) = w4 at *
          obtain ⟨g', hg', hx⟩ := HX.out _ B3.out (by omega)
          injection hg' with hg'
          injection hg' with hg'
          subst hg'
          have xj := hx j hlt
          rw [hi] at xj
          go_cut [79] from 52 to 78 (fun c wx => c = .bool false ∧ ∃ nq, wx = w4.drewN nq)
          case first =>
            have hjn : (j : Int) < n := by omega
            have hj0 : (0 : Int) ≤ j := by omega
            by_cases h0 : j = 0
            · have d4 : decide (0 < j) = false := by simpa using h0
              clear hx hi i1 i2 h0 hd hlt hj hw2
              go_quiet (first | (go_at_call 18; exact Calls.quiet_of_same ((HMd.out _ (B3.out.trans (below_drewN _ _ _))).mono fun _ _ h => ⟨h.1, h.2.symm⟩)))
              go_wp2
              go_meet
              case rel => exact ⟨by first | rfl | rw [HQ.out], _, rfl⟩
            · obtain ⟨p, hp⟩ : ∃ p : Nat, j = p + 1 := ⟨j - 1, by omega⟩
              have xp := hx p (by omega)
              have hpp := HR.out p (by omega)
              rw [← hp, hi] at hpp
              obtain ⟨i0, hi0⟩ := Int.eq_ofNat_of_zero_le (show 0 ≤ ys.getD p 0 by have := (HI.out p (by omega)).1; omega)
              rw [hi0] at xp hpp
              have d3 : decide (i ≤ i0) = false := by simp; omega
              have hw3 : IntKind.i64.wrap ((j : Int) - 1) = (p : Int) := by rw [IntKind.wrap_i64]; omega
              have d4 : decide (0 < j) = true := by simp; omega
              have hpn : (p : Int) < n := by omega
              have hp0 : (0 : Int) ≤ p := by omega
              clear hx hi hi0 hpp i1 i2 hp h0 hd hlt hj hw2
              go_quiet (first | (go_at_call 18; exact Calls.quiet_of_same ((HMd.out _ (B3.out.trans (below_drewN _ _ _))).mono fun _ _ h => ⟨h.1, h.2.symm⟩)))
              go_wp2
              go_meet
              case rel => exact ⟨by first | rfl | rw [HQ.out], _, rfl⟩
          case rest =>
          obtain ⟨rfl, nq, rfl⟩ := hcut
          have B4 : Hid (Below w2.heap.size w2 (w4.drewN nq)) := Lib.hid (B3.out.trans (below_drewN _ _ _))
          generalize w4.drewN nq = w5 at *
          clear hx xj hi i1 i2 hq3
          go_wp2
          exact ⟨⟨j + 1, by omega, by go_num, B4.out⟩, by simp [RowKit.intOf]; omega⟩
        · obtain rfl : n = j := by omega
          have hd : decide ((n : Int) < n) = false := by simp
          clear HX HI HR hlt hj
          go_wp2
          go_loopw [9, 10] (fun s9 s10 wr => ∃ k o : Nat, k ≤ q ∧ o = 2 * (k + 1) ∧ s9 = .int .i64 (cntE E k : Nat) ∧ s10 = .int .i64 o ∧ Below w2.heap.size w2 wr) (fun _ s10 _ => 2 * q + 2 - (RowKit.intOf s10).toNat)
          case atStart => exact ⟨0, 2, by omega, rfl, by rw [HC.out.2.1]; rfl, rfl, B1.out⟩
          case round =>
            obtain ⟨k, o, hk, ho, rfl, rfl, hb⟩ := hrel
            have B2 := Lib.hid hb
            clear hb
            have hwq : IntKind.i64.wrap (2 * (q : Int)) = 2 * (q : Int) := by rw [IntKind.wrap_i64]; omega
            by_cases hlt : k < q
            · have dA : decide ((o : Int) ≤ 2 * (q : Int)) = true := by simp; omega
              have dB : decide (o ≤ 2 * q) = true := by simp; omega
              have hw2 : IntKind.i64.wrap ((o : Int) + 2) = (o : Int) + 2 := by rw [IntKind.wrap_i64]; omega
              have hcl := HCl.out k
              have hcn := HC.out.1 k
              have HO := Lib.hid (HOb.out _ (k + 1) B2.out (by omega) (by omega))
              rw [show 2 * ((k + 1 : Nat) : Int) = (o : Int) by omega] at HO
              have HM : Hid (2 * q + 2 - (o + 2) < 2 * q + 2 - o) := Lib.hid (by omega)
              have HE : Hid (k + 1 ≤ q ∧ o + 2 = 2 * (k + 1 + 1)) := Lib.hid (by omega)
              have hcw : IntKind.i64.wrap ((cntE E k : Int) + 1) = (cntE E k : Int) + 1 := by rw [IntKind.wrap_i64]; omega
              generalize (at_ E ((k + 1 : Nat) : Int)).isSome = s at *
              have HN2 := Lib.hid hcn
              generalize hcg : cntE E (k + 1) = cn at *
              have HG := Lib.hid hcg
              generalize cntE E k = ck at *
              clear ho hk hlt hcn hcl hcg
              cases s with
              | true =>
                have e := HN2.out
                rw [if_pos rfl] at HO
                simp only [if_true] at e
                go_wp2_with (first | (go_at_call 18; refine (HMd.out _ B2.out).mono ?_; rintro e w4 ⟨rfl, rfl⟩) | (go_at_call 22; refine HO.out.mono ?_; rintro e w3 ⟨oc, ok, a1, n1, c1, a3, n3, c3, rfl, hb3⟩; have B3 : Hid (Below w2.heap.size w2 (w3.alloc (.cells #[.int .i64 oc, .int .i64 ok, .slice a1 n1 c1, .slice a3 n3 c3] 33))) := Lib.hid (B2.out.trans ((hb3.trans ((below_new w3 _).mono hb3.size)).mono B2.out.size)); clear hb3))
                exact ⟨⟨k + 1, o + 2, HE.out.1, HE.out.2, by rw [HG.out, e]; go_num, by go_num, B3.out⟩, by have := HM.out; simp [RowKit.intOf]; omega⟩
              | false =>
                have e := HN2.out
                rw [if_neg Bool.false_ne_true] at HO
                simp only [Bool.false_eq_true, if_false] at e
                go_wp2_with (first | (go_at_call 18; refine (HMd.out _ B2.out).mono ?_; rintro e w4 ⟨rfl, rfl⟩) | (go_at_call 22; refine HO.out.mono ?_; rintro e w3 ⟨oc, ok, a1, n1, c1, a3, n3, c3, rfl, hb3⟩; have B3 : Hid (Below w2.heap.size w2 (w3.alloc (.cells #[.int .i64 oc, .int .i64 ok, .slice a1 n1 c1, .slice a3 n3 c3] 33))) := Lib.hid (B2.out.trans ((hb3.trans ((below_new w3 _).mono hb3.size)).mono B2.out.size)); clear hb3))
                exact ⟨⟨k + 1, o + 2, HE.out.1, HE.out.2, by rw [HG.out, e]; go_num, by go_num, B3.out⟩, by have := HM.out; simp [RowKit.intOf]; omega⟩
            · obtain rfl : k = q := by omega
              have dA : decide ((o : Int) ≤ 2 * (k : Int)) = false := by simp; omega
              have dB : decide (o ≤ 2 * k) = false := by simp; omega
              have hw3 : IntKind.i64.wrap ((k : Int) + 1) = (k : Int) + 1 := by rw [IntKind.wrap_i64]; omega
              have hw4 : IntKind.i64.wrap (2 * ((k : Int) + 1)) = 2 * ((k : Int) + 1) := by rw [IntKind.wrap_i64]; omega
              have hcn := HC.out.2.2
              rw [hcn]
              clear hcn
              clear HC HCl HOb ho hk hlt
              go_wp2_with (first | (go_at_call 18; refine (HMd.out _ B2.out).mono ?_; rintro e w4 ⟨rfl, rfl⟩) | (go_at_call 37; refine (HN.out _ B2.out).mono ?_; rintro e w4 ⟨rfl, rfl⟩) | (go_at_call 13; refine (HK.out _).mono ?_; rintro e w4 ⟨rfl, b4⟩; have B4 := Lib.hid (B2.out.trans (b4.mono B2.out.size)); clear b4))
              go_ret
              exact ⟨rfl, HW.out.trans ((K2.out.trans (Keeps.of_below B4.out)).below (fun g hg => hg) (by omega))⟩
end Go.Proofs.Ytmaeoefimkppoaa.Fl
