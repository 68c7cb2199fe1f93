/- Proved: for every int n, every row of things to do and every int ask the law BitsRuns returns true: runs rise, do not touch, and have together as many as are taken. No condition but that math/bits' table starts as the program's text lays it, which the card ties. -/
import Derived.Test.YtdhodglbhfjfaaaDoorDo
import Derived.Test.YtdhodglbhfjfaaaDoorRise
namespace Go.Proofs.YtdhodglbhfjfaaaDoor.bitsRuns
open Go.ChangeShapes Go.WideShapes Go.ChangeAt Go.RowKit

/-- What the laws' loop leaves: some map of the same size. -/
def Looped (m x n : Nat) (w1 wx : World) : Prop := ∃ S, MapAt wx m x n S ∧ But x w1 wx

/-- The value of Runs as it is read. -/
def RunRow (w : World) (v : Value) (R : List (Nat × Nat)) : Prop :=
  ∃ a c, v = .slice a R.length c ∧ (R.length = 0 ∨ ∃ g, a = some ⟨g, 0, none⟩ ∧ ∀ (k s l : Nat), R[k]? = some (s, l) → w.cell? ⟨g, k * 2, none⟩ = some (.int .i64 s) ∧ w.cell? ⟨g, k * 2 + 1, none⟩ = some (.int .i64 l))
theorem runRow_own {w : World} {base : Nat} {v : Value} {R : List (Nat × Nat)} (h : w.ownsRow base 41 2 v R.length (enc2 R)) : RunRow w v R := by
  rcases Joins.ownsRow_forms h with ⟨rfl, h0⟩ | ⟨g, cap, rfl⟩
  · exact ⟨none, 0, by rw [h0], .inl h0⟩
  · refine ⟨_, _, rfl, .inr ⟨g, rfl, fun k s l hk => ?_⟩⟩
    have hlt : k < R.length := by
      rcases Nat.lt_or_ge k R.length with h | h
      · exact h
      · rw [List.getElem?_eq_none h] at hk; cases hk
    obtain ⟨c1, c2⟩ := enc2_at R k s l hk
    rw [h.cellAt _ (by omega), h.cellAt _ (by omega), Nat.mul_comm k 2]
    exact ⟨c1, c2⟩

theorem has_quiet (m x n : Nat) (S : Nat → Bool) (i : Int) (w : World) (d : Nat) (h : MapAt w m x n S) :
    Calls Tryd.prog 18 #[.pointer (some ⟨m, 0, none⟩), .int .i64 i] (w.drewN d) fun e w' => e = .returned (.bool (hasB S i)) ∧ w' = w.drewN d :=
  (has_any m x n S i _ (h.drewN d)).mono fun _ _ ⟨he, hw⟩ => ⟨he, hw.symm⟩

set_option maxHeartbeats 4000000 in
set_option maxRecDepth 1000000 in
theorem walk_big (w : World) (hT : Tab w) (h0 : 0 < w.heap.size) (n ask : Int) (v : Value) (len : Nat) (hd : Dos w v len) (h : 3000 < n ∨ n < 0 ∨ 60 < len) :
    Calls Tryd.prog 4 #[.int .i64 n, v, .int .i64 ask] w fun e w' => e = .returned (.bool true) ∧ Below w.heap.size w w' := by
  obtain ⟨a, c, rfl, hm, _⟩ := hd
  unfold maxLen at hm
  have HK := Lib.hid (known_true w hT h0)
  clear hT
  by_cases h1 : 3000 < n
  · go_enter Tryd.func4, Tryd.ntmps4
    go_wp2_with (go_at_call 8; refine HK.out.mono ?_; rintro e w1 ⟨rfl, hb⟩)
    go_ret
    exact ⟨rfl, hb⟩
  · by_cases h2 : n < 0
    · go_enter Tryd.func4, Tryd.ntmps4
      go_wp2_with (go_at_call 8; refine HK.out.mono ?_; rintro e w1 ⟨rfl, hb⟩)
      go_ret
      exact ⟨rfl, hb⟩
    · have h3 : (60 : Int) < len := by omega
      go_enter Tryd.func4, Tryd.ntmps4
      go_wp2_with (go_at_call 8; refine HK.out.mono ?_; rintro e w1 ⟨rfl, hb⟩)
      go_ret
      exact ⟨rfl, hb⟩

set_option maxHeartbeats 4000000 in
set_option maxRecDepth 1000000 in
theorem walk_small (w : World) (hT : Tab w) (h0 : 0 < w.heap.size) (n : Nat) (ask : Int) (wk : (Lit.int .i64 ask).wf = true) (v : Value) (len : Nat) (hd : Dos w v len) (hn : n ≤ 3000) (hl : len ≤ 60) :
    Calls Tryd.prog 4 #[.int .i64 n, v, .int .i64 ask] w fun e w' => e = .returned (.bool true) ∧ Below w.heap.size w w' := by
  have HD := Lib.hid hd
  obtain ⟨a, c, rfl, _, hd'⟩ := hd
  have HD' := Lib.hid hd'
  have HT := Lib.hid hT
  have HN := Lib.hid (new_yes n w (by omega))
  clear hd' hT
  obtain ⟨m, hm⟩ : ∃ m, w.heap.size + 1 = m := ⟨_, rfl⟩
  obtain ⟨x, hx⟩ : ∃ x, w.heap.size = x := ⟨_, rfl⟩
  have HX := Lib.hid hx
  rw [hm, hx] at HN
  clear hm hx
  have h1 : ¬ (3000 : Int) < n := by omega
  have h2 : ¬ (n : Int) < 0 := by omega
  have h3 : ¬ (60 : Int) < len := by omega
  go_enter Tryd.func4, Tryd.ntmps4
  go_wp2_with fail
  refine HN.out.mono ?_
  rintro e w1 ⟨rfl, m1, b1⟩
  have M1 := Lib.hid m1
  have B1 := Lib.hid (show Below x w w1 from b1)
  clear m1 b1 HN
  go_wp2_with fail
  go_loopw [9] (fun i wx => ∃ k : Nat, k ≤ len ∧ i = .int .i64 k ∧ Looped m x n w1 wx) (fun i _ => len - (intOf i).toNat)
  case atStart => exact ⟨0, Nat.zero_le _, rfl, _, M1.out, But.refl _ _⟩
  case round =>
    obtain ⟨k, hk, rfl, S, hm, hbut⟩ := hrel
    have HB := Lib.hid hbut
    have HM := Lib.hid hm
    have HW : Hid (Below x w wr) := B1.out.trans (hbut.below (Nat.le_refl _) (by rw [← HX.out]; exact B1.out.size))
    clear hm hbut
    by_cases hlt : k < len
    · obtain ⟨b, off, rfl, hall⟩ := HD'.out.resolve_left (by omega)
      obtain ⟨kd, f, q, w1', w2', w3', c1, c2, c3⟩ := hall k hlt
      have hbx : b < x := by rw [← HX.out]; exact World.block_lt_of_cell? _ _ c1
      have r1 : wr.cell? ⟨b, off + k * 3, none⟩ = some (.int .i64 kd) := (HW.out.cell (p := ⟨b, _, none⟩) hbx).trans c1
      have r2 : wr.cell? ⟨b, off + k * 3 + 1, none⟩ = some (.int .i64 f) := (HW.out.cell (p := ⟨b, _, none⟩) hbx).trans c2
      have r3 : wr.cell? ⟨b, off + k * 3 + 2, none⟩ = some (.int .i64 q) := (HW.out.cell (p := ⟨b, _, none⟩) hbx).trans c3
      have HO := Lib.hid (done_any m x n S kd f q wr HM.out w2' w3')
      have hlt' : (k : Int) < len := by omega
      clear c1 c2 c3 hall w1' w2' w3'
      go_wp2_with fail
      refine HO.out.mono ?_
      rintro e w2 ⟨r, S', rfl, hm2, hb2⟩
      have HM2 := Lib.hid hm2
      have HB2 := Lib.hid (HB.out.trans hb2)
      clear hm2 hb2
      go_wp2_with fail
      go_roundw
      case rel => exact ⟨k + 1, by omega, by go_num, S', HM2.out, HB2.out⟩
      case measure => simp [intOf]; omega
    · have hsz : Hid (0 < wr.heap.size ∧ x < wr.heap.size ∧ 0 < x) := by
        have h1 := HW.out.size
        have h2 := HX.out
        have h3 := HM.out.xlt
        show _ ∧ _
        omega
      have TR : Hid (Tab wr) := HT.out.below HW.out hsz.out.2.2
      have HF := Lib.hid (runs_any m x n S wr HM.out TR.out)
      obtain ⟨ro1, ro2, ro3⟩ := runs_ok S n HM.out.out
      have RO1 := Lib.hid ro1
      have RO2 := Lib.hid ro2
      have RO3 := Lib.hid ro3
      have hcl := cnt_le S 0 n
      clear HB HD' HD ro1 ro2 ro3
      generalize runs S n = R at HF RO1 RO2 RO3
      go_wp2_with fail
      refine HF.out.mono ?_
      rintro e w2 ⟨v0, rfl, hown, hb2⟩
      obtain ⟨a0, c0, rfl, hrow⟩ := runRow_own hown
      have HRow := Lib.hid hrow
      have B2 := Lib.hid hb2
      have M2 := Lib.hid (HM.out.below hb2)
      have T2 : Hid (Tab w2) := TR.out.below hb2 hsz.out.1
      have G2 : Hid (Below x w w2) := HW.out.trans (hb2.mono (by have := hsz.out; omega))
      have Z2 : Hid (0 < w2.heap.size ∧ x < w2.heap.size) := by have h1 := hsz.out; have h2 := hb2.size; show _ ∧ _; omega
      have FK : Hid (∀ d, Calls Tryd.prog 8 #[] (w2.drewN d) fun e w' => e = .returned (.bool true) ∧ Below x w w') := fun d =>
        (known_true (w2.drewN d) T2.out Z2.out.1).mono fun e w' ⟨he, hb⟩ => ⟨he, G2.out.trans (Below.mono ⟨hb.os, hb.tape, hb.output, hb.size, hb.block⟩ (Nat.le_of_lt Z2.out.2))⟩
      have hR1 := hown.1
      clear hown hb2 HF hrow
      obtain ⟨q, hq⟩ : ∃ q, cnt S 0 n = q := ⟨_, rfl⟩
      have HQ := Lib.hid hq
      have hqn : q ≤ n := by rw [← hq]; exact hcl
      clear hq hcl hR1
      have HRl : Hid (R.length ≤ n) := by
        show R.length ≤ n
        have h1 : ∀ (A : List (Nat × Nat)), (∀ p ∈ A, 1 ≤ p.2) → A.length ≤ sumL A := fun A => by
          induction A with
          | nil => intro _; simp
          | cons p A ih => intro h; have h1 := ih (fun p hp => h p (by simp [hp])); have h2 := h p (by simp); simp only [List.length_cons, sumL]; omega
        have h2 := h1 R fun p hp => by
          obtain ⟨k, hk⟩ := List.mem_iff_getElem?.1 hp
          exact (RO1.out k p.1 p.2 hk).1
        have h3 := RO3.out
        have h4 := HQ.out
        omega
      go_wp2_with fail
      go_loopw [11, 12] (fun s11 s12 wx => ∃ k d : Nat, k ≤ R.length ∧ s12 = .int .i64 k ∧ s11 = .int .i64 (sumL (R.take k)) ∧ wx = w2.drewN d) (fun _ i _ => R.length - (intOf i).toNat)
      case atStart => exact ⟨0, 0, Nat.zero_le _, rfl, rfl, rfl⟩
      case round =>
        obtain ⟨k, d, hk, rfl, rfl, hw⟩ := hrel
        have HW2 := Lib.hid hw
        have MR : Hid (MapAt wr m x n S) := by show MapAt wr m x n S; rw [hw]; exact M2.out.drewN d
        by_cases hlt : k < R.length
        · obtain ⟨s, l, hsl⟩ : ∃ s l, R[k]? = some (s, l) := ⟨R[k].1, R[k].2, List.getElem?_eq_getElem hlt⟩
          obtain ⟨g, rfl, hcells⟩ := HRow.out.resolve_left (by omega)
          obtain ⟨p1, p2⟩ := hcells k s l hsl
          have r1 : wr.cell? ⟨g, k * 2, none⟩ = some (.int .i64 s) := by rw [hw]; exact p1
          have r2 : wr.cell? ⟨g, k * 2 + 1, none⟩ = some (.int .i64 l) := by rw [hw]; exact p2
          obtain ⟨o1, o2, o3, o4⟩ := RO1.out k s l hsl
          have hs1 := sumL_take_le R (k + 1)
          have hs2 := sumL_take_succ R k s l hsl
          have HSum := Lib.hid hs2
          have hs3 : sumL (R.take k) + l ≤ 65536 := by have h1 := RO3.out; have h2 := HQ.out; omega
          have hh1 : hasB S (s : Int) = true := by simp [hasB, o3]
          have hh2 : hasB S ((s : Int) + l) = false := by
            have e : ((s : Int) + l).toNat = s + l := by omega
            simp [hasB, e, o4]
          have hlt' : (k : Int) < R.length := by omega
          have hl1 : decide ((l : Int) < 1) = false := by simp; omega
          have W1 : IntKind.i64.wrap ((s : Int) + l) = s + l := by rw [IntKind.wrap_i64]; omega
          have HH := Lib.hid (fun (i : Int) (d : Nat) => has_quiet m x n S i wr d MR.out)
          have hkR := HRl.out
          generalize sumL (R.take k) = t at hs3 HSum
          clear hw p1 p2 hs1 hs2 o3 o4
          cases k with
          | zero =>
            clear hcells
            have hk0 : decide ((0 : Int) < ((0 : Nat) : Int)) = false := rfl
            go_wp2
            go_quiet (first | (go_at_call 18; exact Calls.quiet_of_same (HH.out _ _)))
            clear W1
            go_wp2
            go_roundw
            case rel => exact ⟨1, d + nq, by omega, by go_num, by rw [HSum.out]; go_num, by rw [HW2.out, World.drewN_drewN]⟩
            case measure => simp [intOf]; omega
          | succ k =>
            obtain ⟨s', l', hsl'⟩ : ∃ s l, R[k]? = some (s, l) := ⟨R[k].1, R[k].2, List.getElem?_eq_getElem (by omega)⟩
            obtain ⟨p3, p4⟩ := hcells k s' l' hsl'
            have r3 : wr.cell? ⟨g, k * 2, none⟩ = some (.int .i64 s') := by rw [HW2.out]; exact p3
            have r4 : wr.cell? ⟨g, k * 2 + 1, none⟩ = some (.int .i64 l') := by rw [HW2.out]; exact p4
            have hrise := RO2.out k s l s' l' hsl' hsl
            obtain ⟨_, o2', _, _⟩ := RO1.out k s' l' hsl'
            have hle : decide ((s : Int) ≤ (s' : Int) + l') = false := by simp; omega
            have W2 : IntKind.i64.wrap ((k : Int) + 1 - 1) = k := by rw [IntKind.wrap_i64]; omega
            have W3 : IntKind.i64.wrap ((s' : Int) + l') = s' + l' := by rw [IntKind.wrap_i64]; omega
            have hk0 : (0 : Int) < (k : Int) + 1 := by omega
            have hkR' : (k : Int) < R.length := by omega
            clear hcells p3 p4
            go_wp2
            go_quiet (first | (go_at_call 18; exact Calls.quiet_of_same (HH.out _ _)))
            clear W1 W2 W3
            go_wp2
            go_roundw
            case rel => exact ⟨k + 1 + 1, d + nq, by omega, by go_num, by rw [HSum.out]; go_num, by rw [HW2.out, World.drewN_drewN]⟩
            case measure => simp [intOf]; omega
        · have hkR : k = R.length := by omega
          have hsum : sumL (R.take k) = q := by rw [hkR, List.take_length, RO3.out, HQ.out]
          rw [hsum]
          have hwr := HW2.out
          clear hw MR HW2
          subst hwr
          have HF1 : Hid (∀ d, Calls Tryd.prog 13 #[.pointer (some ⟨m, 0, none⟩), .int .i64 1] (w2.drewN d) (FirstPost S n 1 (w2.drewN d))) := fun d => first_any m x n S 1 (w2.drewN d) (M2.out.drewN d) T2.out (by decide) (by decide)
          have HK2 : Hid (∀ d, Calls Tryd.prog 12 #[.pointer (some ⟨m, 0, none⟩)] (w2.drewN d) fun e w' => e = .returned (.int .i64 q) ∧ ∃ d', w' = (w2.drewN d).drewN d') := fun d => by
            have h := taken_any m x n S (w2.drewN d) (M2.out.drewN d)
            rw [HQ.out] at h
            exact h
          have hlt' : ¬ (k : Int) < R.length := by omega
          clear hsum hkR
          by_cases hask : ask < 1
          · go_wp2_with fail
            refine (first_no m ask _ hask).mono ?_
            rintro e w4 ⟨rfl, rfl⟩
            go_wp2_with fail
            refine (HF1.out _).mono ?_
            rintro e w5 ⟨one, is, d5, rfl, hfi1, rfl⟩
            rcases hfi1 with ⟨rfl, g1, g2, g3⟩ | ⟨rfl, rfl, g2⟩
            · have hlt1 : q < n := by
                rcases Nat.lt_or_ge q n with h | h
                · exact h
                · have h1 := of_cnt_all (S := S) (a := 0) (c := n) (by rw [HQ.out]; omega) one (by omega)
                  have h2 := g2 0 (by omega)
                  rw [Nat.zero_add] at h1
                  rw [Nat.add_zero, h1] at h2; cases h2
              have hlt2 : (q : Int) < n := by omega
              clear g1 g2 g3
              go_wp2_with fail
              refine (HK2.out _).mono ?_
              rintro e w6 ⟨rfl, d6, rfl⟩
              go_wp2_with fail
              refine (FK.out _).mono ?_
              rintro e w7 ⟨rfl, hb7⟩
              go_wp2_with fail
              go_ret
              exact ⟨rfl, by rw [HX.out]; exact hb7⟩
            · have hlt1 : ¬ q < n := fun h => by
                have h1 : cnt S 0 n = n := cnt_all fun k hk => by
                  obtain ⟨j, hj, hs⟩ := g2 k (by omega)
                  obtain rfl : j = 0 := by omega
                  rw [Nat.zero_add]; exact hs
                rw [HQ.out] at h1; omega
              have hlt2 : ¬ (q : Int) < n := by omega
              clear g2
              go_wp2_with fail
              refine (HK2.out _).mono ?_
              rintro e w6 ⟨rfl, d6, rfl⟩
              go_wp2_with fail
              refine (FK.out _).mono ?_
              rintro e w7 ⟨rfl, hb7⟩
              go_wp2_with fail
              go_ret
              exact ⟨rfl, by rw [HX.out]; exact hb7⟩
          · obtain ⟨c', rfl⟩ := Int.eq_ofNat_of_zero_le (show 0 ≤ ask by omega)
            have hwk := wf_i64 wk
            have HFi := Lib.hid (fun d => first_any m x n S c' (w2.drewN d) (M2.out.drewN d) T2.out (by omega) (by omega))
            go_wp2_with fail
            refine (HFi.out _).mono ?_
            rintro e w4 ⟨at', ok, d4, rfl, hfi, rfl⟩
            rcases hfi with ⟨rfl, hf1, hf2, _⟩ | ⟨rfl, rfl, _⟩
            · have HS := Lib.hid hf2
              clear hf2 HFi
              go_wp2_with fail
              go_loop [15] (fun i => ∃ j : Nat, j ≤ c' ∧ i = .int .i64 j) (fun i => c' - (intOf i).toNat)
              case atStart => exact ⟨0, Nat.zero_le _, rfl⟩
              case round =>
                obtain ⟨j, hj, rfl⟩ := hrel
                by_cases hjl : j < c'
                · have hjl' : (j : Int) < c' := by omega
                  have HA : Hid (∀ d, Calls Tryd.prog 18 #[.pointer (some ⟨m, 0, none⟩), .int .i64 ((at' : Int) + j)] (w2.drewN d) fun e w' => e = .returned (.bool false) ∧ w2.drewN d = w') := fun d => by
                    have h := has_any m x n S ((at' : Int) + j) (w2.drewN d) (M2.out.drewN d)
                    have e : ((at' : Int) + j).toNat = at' + j := by omega
                    have e2 : hasB S ((at' : Int) + j) = false := by simp [hasB, e, HS.out j hjl]
                    rw [e2] at h
                    exact h
                  go_wp2_with fail
                  refine (HA.out _).mono ?_
                  rintro e w5 ⟨rfl, rfl⟩
                  go_wp2_with fail
                  go_round
                  case rel => exact ⟨j + 1, by omega, by go_num⟩
                  case measure => simp [intOf]; omega
                · have hjl' : ¬ (j : Int) < c' := by omega
                  go_wp2_with fail
                  refine (HF1.out _).mono ?_
                  rintro e w5 ⟨one, is, d5, rfl, hfi1, rfl⟩
                  rcases hfi1 with ⟨rfl, g1, g2, g3⟩ | ⟨rfl, rfl, g2⟩
                  · have hlt1 : q < n := by
                      rcases Nat.lt_or_ge q n with h | h
                      · exact h
                      · have h1 := of_cnt_all (S := S) (a := 0) (c := n) (by rw [HQ.out]; omega) one (by omega)
                        have h2 := g2 0 (by omega)
                        rw [Nat.zero_add] at h1
                        rw [Nat.add_zero, h1] at h2; cases h2
                    have hlt2 : (q : Int) < n := by omega
                    have hone : ¬ (at' : Int) < one := fun h => by
                      obtain ⟨k, hk, hs⟩ := g3 at' (by omega)
                      rw [HS.out k (by omega)] at hs; cases hs
                    clear g1 g2 g3
                    go_wp2_with fail
                    refine (HK2.out _).mono ?_
                    rintro e w6 ⟨rfl, d6, rfl⟩
                    go_wp2_with fail
                    refine (FK.out _).mono ?_
                    rintro e w7 ⟨rfl, hb7⟩
                    go_wp2_with fail
                    go_ret
                    exact ⟨rfl, by rw [HX.out]; exact hb7⟩
                  · exfalso
                    obtain ⟨k, hk, hs⟩ := g2 at' (by omega)
                    rw [HS.out k (by omega)] at hs; cases hs
            · go_wp2_with fail
              refine (HF1.out _).mono ?_
              rintro e w5 ⟨one, is, d5, rfl, hfi1, rfl⟩
              rcases hfi1 with ⟨rfl, g1, g2, g3⟩ | ⟨rfl, rfl, g2⟩
              · have hlt1 : q < n := by
                  rcases Nat.lt_or_ge q n with h | h
                  · exact h
                  · have h1 := of_cnt_all (S := S) (a := 0) (c := n) (by rw [HQ.out]; omega) one (by omega)
                    have h2 := g2 0 (by omega)
                    rw [Nat.zero_add] at h1
                    rw [Nat.add_zero, h1] at h2; cases h2
                have hlt2 : (q : Int) < n := by omega
                clear g1 g2 g3
                go_wp2_with fail
                refine (HK2.out _).mono ?_
                rintro e w6 ⟨rfl, d6, rfl⟩
                go_wp2_with fail
                refine (FK.out _).mono ?_
                rintro e w7 ⟨rfl, hb7⟩
                go_wp2_with fail
                go_ret
                exact ⟨rfl, by rw [HX.out]; exact hb7⟩
              · have hlt1 : ¬ q < n := fun h => by
                  have h1 : cnt S 0 n = n := cnt_all fun k hk => by
                    obtain ⟨j, hj, hs⟩ := g2 k (by omega)
                    obtain rfl : j = 0 := by omega
                    rw [Nat.zero_add]; exact hs
                  rw [HQ.out] at h1; omega
                have hlt2 : ¬ (q : Int) < n := by omega
                clear g2
                go_wp2_with fail
                refine (HK2.out _).mono ?_
                rintro e w6 ⟨rfl, d6, rfl⟩
                go_wp2_with fail
                refine (FK.out _).mono ?_
                rintro e w7 ⟨rfl, hb7⟩
                go_wp2_with fail
                go_ret
                exact ⟨rfl, by rw [HX.out]; exact hb7⟩

theorem walk (w : World) (hT : Tab w) (h0 : 0 < w.heap.size) (n : Int) (_wn : (Lit.int .i64 n).wf = true) (v : Value) (len : Nat) (hd : Dos w v len) (ask : Int) (wk : (Lit.int .i64 ask).wf = true) :
    Calls Tryd.prog 4 #[.int .i64 n, v, .int .i64 ask] w fun e w' => e = .returned (.bool true) ∧ Below w.heap.size w w' := by
  by_cases h : 3000 < n ∨ n < 0 ∨ 60 < len
  · exact walk_big w hT h0 n ask v len hd h
  · obtain ⟨k, rfl⟩ := Int.eq_ofNat_of_zero_le (show 0 ≤ n by omega)
    exact walk_small w hT h0 k ask wk v len hd (by omega) (by omega)


set_option maxRecDepth 100000 in
theorem lifted (os : Os) (started : os.Started) (H : Type) (enc : TypeId × Value → H) :
    ReturnsInHanded {} Tryd.checked os 4 .any (fun w args => (Rows.bitsRunsSpec.pre enc Tryd.prog Tryd.f4 [] false w args ∧ laidMetH Tryd.prog theLaid w) ∧ sizedMet enc Tryd.prog Tryd.f4 (OpenSpec.ofChange Rows.bitsRunsSpec) false w args)
      (Rows.bitsRunsSpec.post enc Tryd.prog Tryd.f4 false true false false) := by
  refine returnsInHanded_of_change_and (C := Tryd.checked) (X := fun w _ => laidMetH Tryd.prog theLaid w) (fun _ _ _ hh h => h.of_heap hh) Tryd.own started (by kernel_rfl) Tryd.func4
    (ChangeSpec.witness_shaped (enc := enc) (C := Tryd.checked) (os := os) (X := fun w _ => laidMetH Tryd.prog theLaid w) false (World.doorLaid Tryd.prog 400 os) #[.int .i64 0, .slice none 0 0, .int .i64 0] 8 rfl (World.shaped_of_RefB (by kernel_rfl) (by kernel_rfl)) (by kernel_rfl) (by kernel_rfl) (by kernel_rfl) (door_met os _)) ?_
  intro W base args ds gs before hval0 hW _ _ hL _
  have hval : ∀ (j : Nat) t v, Tryd.f4.params[j]? = some t → args[j]? = some v → Value.okWide Tryd.prog W .any base t v := hval0
  have hW' := hW
  obtain ⟨p, q, hA0, hV, rfl, _, _⟩ := hW
  have hA : DataW.TrodAll enc Tryd.prog W 0 (fun _ => true) true Tryd.f4.params.toList args.toList ds p := hA0
  rw [Tryd.params4] at hA hval
  obtain ⟨v0, vs0, d0, ds0, p0, q0, hargs, rfl, rfl, h0, r0⟩ := trodAll_cons hA
  obtain ⟨v1, vs1, d1, ds1, p1, q1, rfl, rfl, rfl, h1, r1⟩ := trodAll_cons r0
  obtain ⟨v2, vs2, d2, ds2, p2, q2, rfl, rfl, rfl, h2, r2⟩ := trodAll_cons r1
  obtain ⟨rfl, rfl, rfl⟩ := trodAll_nil r2
  obtain rfl : args = #[v0, v1, v2] := by cases args; simp_all
  obtain ⟨rfl, rfl⟩ := trodVars_none hV
  obtain ⟨a0, rfl, rfl, rfl, w0⟩ := open_int Tryd.underlying3 (hval 0 3 v0 rfl rfl) h0
  obtain ⟨a2, rfl, rfl, rfl, w2⟩ := open_int Tryd.underlying3 (hval 2 3 v2 rfl rfl) h2
  clear hA0 hval0
  simp only [List.append_nil] at hW'
  obtain ⟨x1, hb1⟩ := open_dos (hval 1 22 v1 rfl rfl) h1
  have hlt1 : ∀ x ∈ p1, x.block < W.heap.size := fun x hx => by simpa using hW'.lt x (by simp [hx])
  obtain ⟨hT, h00⟩ := tab_of_laid hL
  refine (walk W hT h00 a0 w0 v1 x1 hb1 a2 w2).mono fun e W' ⟨he, hg⟩ => ?_
  subst he
  exact ⟨_, rfl, _, _, _, [], _, [], hW', (trodAll_cons_mk (shut_bool Tryd.underlying4 _) trodAll_mk0), (trodAll_cons_mk (shut_int Tryd.underlying3 w0) (trodAll_cons_mk (Below.trod Tryd.laidOut (by kernel_rfl) (of_decide_eq_true (by kernel_rfl)) h1 hg hlt1) (trodAll_cons_mk (shut_int Tryd.underlying3 w2) trodAll_mk0))), rfl, hg.frame _, fun h => by cases h⟩

theorem over : Rows.bitsRunsRow.holds Tryd.pinned (OpenSpec.ofChange Rows.bitsRunsSpec) :=
  OpenClaim.holds_of_wide 4 Tryd.f4 rfl rfl rfl rfl rfl rfl rfl ⟨rfl, rfl, rfl, rfl, rfl⟩ rfl rfl rfl rfl rfl (by kernel_rfl) Tryd.func4 (by kernel_rfl)
    (of_decide_eq_true (by kernel_rfl)) (by unfold Func.isWrapper; first | (rw [if_pos (by decide +kernel)]; kernel_rfl) | (rw [if_neg (by decide +kernel)]; exact ⟨rfl, rfl⟩))
    (fun os started H enc _ => lifted os started H enc)
end Go.Proofs.YtdhodglbhfjfaaaDoor.bitsRuns
namespace Go.Proofs.YtdhodglbhfjfaaaDoor
open Go
theorem bitsRuns_holds : Rows.BitsRunsCardSaid :=
  Claim7.holds_tied_plain_at .later [] [.data] true (true, "5e291a71a13c3398cfc2698423a671421766ed3e1958b79b578a83f7829fa2b9") false
    bitsRuns.over (fun _ h => by cases h) (by kernel_rfl) (fun _ h => by cases h) bitsRuns_row_tie rfl ⟨rfl, rfl⟩ (by kernel_rfl) rfl
    (fun f fn hf hfn => by
      obtain rfl : f = 4 := Option.some.inj ((show Tryd.prog.funcNamed Rows.bitsRunsRow.func = some 4 by kernel_rfl).symm.trans hf) |>.symm
      obtain rfl : fn = Tryd.f4 := (Option.some.inj (Tryd.func4.symm.trans hfn)).symm
      exact ⟨by kernel_rfl, fun j t ht => by
        rw [Tryd.params4] at ht
        have hm : t ∈ [3, 22, 3] := by simpa using Array.mem_of_getElem? ht
        have hall : ([3, 22, 3].all fun u => !Tryd.prog.wantsStandIn u) = true := by kernel_rfl
        exact (show Tryd.prog.wantsStandIn t = false by simpa using List.all_eq_true.1 hall t hm)⟩)
    (by kernel_rfl)
end Go.Proofs.YtdhodglbhfjfaaaDoor
