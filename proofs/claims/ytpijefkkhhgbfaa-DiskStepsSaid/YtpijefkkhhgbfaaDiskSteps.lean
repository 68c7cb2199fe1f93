/- Proved: for every int n and every row of things to do the law DiskSteps returns true: a disk of any size answers all that is done to it as the chapter says. No condition. -/
import Derived.Test.YtpijefkkhhgbfaaStep
namespace Go.Proofs.Ytpijefkkhhgbfaa.diskSteps
open Go.ChangeShapes Go.WideShapes Go.ChangeAt Go.RowKit

theorem toldE_le (n : Nat) (k f : Int) (bs : List Int) : 0 ≤ toldE n k f bs ∧ toldE n k f bs ≤ 4 := by
  unfold toldE
  split
  · split <;> omega
  · omega

def StepsInv (m x n r c : Nat) (D : Nat → Int) (w : World) (v : Value) (wr : World) : Prop :=
  DiskAt wr m x n r c D ∧ RefAt (fun b => b ≠ m ∧ b ≠ x) wr v n D ∧ Below x w wr
def ReadInv (m x n r c j : Nat) (D : Nat → Int) (w5 wr : World) : Prop := DiskAt wr m x n (r + j) c D ∧ Only (dk m x) w5 wr

set_option maxHeartbeats 4000000 in
set_option maxRecDepth 1000000 in
theorem walk_big (w : World) (n : Int) (v : Value) (len : Nat) (hd : Dos w v len) (h : (200 < n ∧ n ≤ 20000) ∨ 60 < len) :
    Calls Try.prog 3 #[.int .i64 n, v] w fun e w' => e = .returned (.bool true) ∧ Below w.heap.size w w' := by
  obtain ⟨a3, c3, rfl, m3, _⟩ := hd
  unfold maxLen at m3
  have HK := Lib.hid (known_true w)
  by_cases h1 : 200 < n
  · by_cases h2 : n ≤ 20000
    · clear h
      go_enter Try.func3, Try.ntmps3
      go_wp2_with (go_at_call 8; refine HK.out.mono ?_; rintro e w1 ⟨rfl, hb⟩)
      go_ret
      exact ⟨rfl, hb⟩
    · have h3 : (60 : Int) < len := by omega
      clear h
      go_enter Try.func3, Try.ntmps3
      go_wp2_with (go_at_call 8; refine HK.out.mono ?_; rintro e w1 ⟨rfl, hb⟩)
      go_ret
      exact ⟨rfl, hb⟩
  · have h3 : (60 : Int) < len := by omega
    clear h
    go_enter Try.func3, Try.ntmps3
    go_wp2_with (go_at_call 8; refine HK.out.mono ?_; rintro e w1 ⟨rfl, hb⟩)
    go_ret
    exact ⟨rfl, hb⟩

set_option maxHeartbeats 4000000 in
set_option maxRecDepth 1000000 in
theorem walk_no (w : World) (n : Int) (v : Value) (len : Nat) (hd : Dos w v len) (hn : n < 0 ∨ 20000 < n) (h : len ≤ 60) :
    Calls Try.prog 3 #[.int .i64 n, v] w fun e w' => e = .returned (.bool true) ∧ Below w.heap.size w w' := by
  obtain ⟨a3, c3, rfl, m3, _⟩ := hd
  have HK := Lib.hid (known_true w)
  have HN := Lib.hid (new_no n w hn)
  have h3 : ¬ (60 : Int) < len := by omega
  by_cases h1 : n < 0
  · have h2 : ¬ 200 < n := by omega
    clear hn
    go_enter Try.func3, Try.ntmps3
    go_wp2_with fail
    refine HN.out.mono ?_
    rintro e w1 ⟨rfl, rfl⟩
    go_wp2_with fail
    refine HK.out.mono ?_
    rintro e w1 ⟨rfl, hb⟩
    go_wp2_with fail
    go_ret
    exact ⟨rfl, hb⟩
  · have h2 : 200 < n := by omega
    have h4 : ¬ n ≤ 20000 := by omega
    have h5 : 20000 < n := by omega
    clear hn
    go_enter Try.func3, Try.ntmps3
    go_wp2_with fail
    refine HN.out.mono ?_
    rintro e w1 ⟨rfl, rfl⟩
    go_wp2_with fail
    refine HK.out.mono ?_
    rintro e w1 ⟨rfl, hb⟩
    go_wp2_with fail
    go_ret
    exact ⟨rfl, hb⟩

set_option maxHeartbeats 8000000 in
set_option maxRecDepth 1000000 in
theorem walk_small (w : World) (n : Nat) (v3 : Value) (x3 : Nat) (hb3 : Dos w v3 x3) (hn : n ≤ 200) (h3 : x3 ≤ 60) :
    Calls Try.prog 3 #[.int .i64 n, v3] w fun e w' => e = .returned (.bool true) ∧ Below w.heap.size w w' := by
  have A3 := Lib.hid hb3
  obtain ⟨a3, c3, rfl, _, _⟩ := hb3
  have h3' : ¬ (60 : Int) < x3 := by omega
  have hn1 : ¬ (200 : Int) < n := by omega
  have hn2 : ¬ (n : Int) < 0 := by omega
  have hn3 : ¬ (20000 : Int) < n := by omega
  have HN := Lib.hid (new_yes n w (by omega))
  obtain ⟨m, hm⟩ : ∃ m, w.heap.size + 1 = m := ⟨_, rfl⟩
  obtain ⟨x, hx⟩ : ∃ x, w.heap.size = x := ⟨_, rfl⟩
  have HX : Hid (w.heap.size = x ∧ x ≤ m) := ⟨hx, by omega⟩
  rw [hm, hx] at HN
  clear hm hx
  have S : Hid (∀ i, i < x → ¬ dk m x i) := fun i hi h => by have := HX.out; rcases h with h | h <;> omega
  go_enter Try.func3, Try.ntmps3
  go_wp2_with fail
  refine HN.out.mono ?_
  rintro e w1 ⟨rfl, d1, b1⟩
  have D1 := Lib.hid d1
  have B1 : Hid (Below x w w1) := b1
  have HM := Lib.hid (newref_any n w1 (by omega))
  clear d1 b1 HN
  go_wp2_with fail
  refine HM.out.mono ?_
  rintro e w2 ⟨v2, rfl, href, b2⟩
  have I2 : Hid (StepsInv m x n 0 0 (fun _ => 0) w v2 w2) := ⟨D1.out.fresh b2, href.kind (fun b _ h => by have h1 := D1.out.mlt; have h2 := D1.out.xlt; exact ⟨by omega, by omega⟩), B1.out.trans (b2.mono (Nat.le_of_lt D1.out.xlt))⟩
  clear href b2 HM
  go_wp2_with fail
  go_loopw [7, 8, 9, 10] (fun v rd wd i wr => ∃ (k r c : Nat) (D : Nat → Int), k ≤ x3 ∧ i = .int .i64 k ∧ rd = .int .i64 r ∧ wd = .int .i64 c ∧ r ≤ k ∧ c ≤ k ∧ StepsInv m x n r c D w v wr) (fun _ _ _ i _ => x3 - (intOf i).toNat)
  case atStart => exact ⟨0, 0, 0, _, Nat.zero_le _, rfl, rfl, rfl, Nat.le_refl _, Nat.le_refl _, I2.out⟩
  case round =>
    obtain ⟨k, r, c, D, hk, rfl, rfl, rfl, hr, hc, hinv⟩ := hrel
    obtain ⟨d3, r3, b3⟩ := hinv
    have D3 := Lib.hid d3
    have R3 := Lib.hid r3
    have B3 := Lib.hid b3
    have hm3 := d3.mlt
    have hx3 := d3.xlt
    clear d3 r3 b3 I2
    by_cases hlt : k < x3
    · have hlt' : (k : Int) < x3 := by omega
      have AT : Hid (∀ w', Below x w w' → Below w.heap.size w w') := fun w' hb => by rw [HX.out.1]; exact hb
      obtain ⟨b, off, c', he, q, f, ba, bc, bs, wq, wf, hbs, hby, hbl, c1, c2', c3'⟩ := A3.out.at_ hlt (AT.out _ B3.out)
      injection he with e1 e2 e3
      subst e1 e3
      have hbw : b < x := by
        obtain ⟨b', off', c'', he', _, _, _, _, _, _, _, _, _, _, g1, _, _⟩ := A3.out.at_ hlt (Below.refl _ _)
        injection he' with e1
        injection e1 with e1
        injection e1 with e1
        subst e1
        rw [← HX.out.1]
        exact World.block_lt_of_cell? _ _ g1
      have CE : Hid (∀ w', Below x wr w' → w'.cell? ⟨b, off + k * 3, none⟩ = some (.int .i64 q) ∧ w'.cell? ⟨b, off + k * 3 + 1, none⟩ = some (.int .i64 f) ∧ w'.cell? ⟨b, off + k * 3 + 2, none⟩ = some (.slice ba bs.length bc)) := fun w' hb =>
        ⟨(hb.cell (p := ⟨b, _, none⟩) hbw).trans c1, (hb.cell (p := ⟨b, _, none⟩) hbw).trans c2', (hb.cell (p := ⟨b, _, none⟩) hbw).trans c3'⟩
      have BS := Lib.hid (show Bts (· < w.heap.size) wr (.slice ba bs.length bc) bs from hbs)
      have HO := Lib.hid (done_any m x n r c D q f _ bs wr D3.out (by omega) (by omega) hbs hby hbl)
      clear e2 wq wf hbs hby
      go_wp2_with fail
      refine HO.out.mono ?_
      rintro e w4 ⟨v4, rfl, hown, d4, o4⟩
      have b4 : Below x wr w4 := o4.below S.out (Nat.le_of_lt hx3)
      have hE := toldE_le n q f bs
      have R4 := (R3.out.kind (M := fun b => (b ≠ m ∧ b ≠ x) ∧ b < wr.heap.size) (fun b h1 h2 => ⟨h2, h1⟩)).only o4 (fun b h1 h2 => by rcases h2 with h2 | h2; exact h1.1.1 h2; exact h1.1.2 h2)
      have HS := Lib.hid (step_any u7 n D q f _ bs w4 R4 (by omega) (BS.out.only o4 (fun q h1 h2 => S.out q (by rw [← HX.out.1]; exact h1) h2)) hbl)
      have OW := Lib.hid hown
      have D4 := Lib.hid d4
      have B4 := Lib.hid b4
      have hsz4 := o4.size
      obtain ⟨g1, g2, g3⟩ := CE.out w4 b4
      clear hown d4 o4 b4 R4 HO c1 c2' c3'
      obtain ⟨E, hEq⟩ : ∃ E, toldE n q f bs = E := ⟨_, rfl⟩
      rw [hEq] at hE D4 ⊢
      have HEQ := Lib.hid hEq
      have hE1 := hE.1
      have hE2 := hE.2
      clear hEq hE
      go_wp2_with fail
      refine HS.out.mono ?_
      rintro e w5 ⟨v5, vb, he5, r5, hb5, b5⟩
      rw [HEQ.out] at he5
      subst he5
      have o5 : Only (fun _ => False) w4 w5 := Only.of_below b5
      have OW5 := Lib.hid (own_only OW.out o5 (fun _ _ h => h))
      have D5 := Lib.hid (D4.out.fresh b5)
      have R5 := Lib.hid r5
      have B5 : Hid (Below x wr w5) := B4.out.trans (b5.mono (by omega))
      have HSM := Lib.hid (same_eq v4 vb (toldB n D q f) w5 (Vals.of_own (by rw [List.length_map]; exact OW5.out)) hb5)
      have hsz5 := b5.size
      have HSP := Lib.hid (spoil_lim wr.heap.size w4.heap.size v4 (toldB n D q f) w5 OW5.out (by unfold toldB; split <;> simp [sec_len]) (fun g hg => (OW.out.lt g hg).2))
      clear o5 r5 hb5 b5 OW HS
      go_wp2_with fail
      refine HSM.out.mono ?_
      rintro e w6 ⟨rfl, rfl⟩
      go_wp2_with fail
      refine HSP.out.mono ?_
      rintro e w6 ⟨rfl, o6⟩
      have b6 : Below x w5 w6 := o6.below (fun i hi h => by have := h.1; omega) (by omega)
      have B6 : Hid (Below x wr w6) := B5.out.trans b6
      obtain ⟨k1, _, _⟩ := CE.out w6 B6.out
      have I6 : Hid (StepsInv m x n (nextR r E q) (nextC c E q) (nextD n D q f bs) w v5 w6) := by
        refine ⟨D5.out.only o6 (fun h => by have := h.1; omega) (fun h => by have := h.1; omega), ?_, B3.out.trans B6.out⟩
        exact (R5.out.only o6 (fun b h1 h2 => by
          have h3 := h2.1
          have h4 := h2.2
          rcases h1 with h1 | h1
          · have := h1.2; omega
          · omega)).kind (fun b _ h1 => by
          rcases h1 with h1 | h1
          · exact h1.1
          · exact ⟨by omega, by omega⟩)
      have FIN : Hid (∀ r' c' : Nat, nextR r E q = r' → nextC c E q = c' → StepsInv m x n r' c' (nextD n D q f bs) w v5 w6) := fun r' c' h1 h2 => by rw [← h1, ← h2]; exact I6.out
      clear o6 b6 I6 D5 R5 B5 OW5 HSM HSP g1 g2 g3 D4 B4
      by_cases hE0 : E = 0
      · subst hE0
        by_cases hq1 : q = 1
        · subst hq1
          have F := Lib.hid (FIN.out (r + 1) c (by simp [nextR]) (by simp [nextC]))
          clear FIN
          go_wp2_with fail
          go_roundw
          case rel => exact ⟨k + 1, r + 1, c, _, by omega, by go_num, by go_num, rfl, by omega, by omega, F.out⟩
          case measure => simp [intOf]; omega
        · have hq1' : (q == 1) = false := by simpa using hq1
          by_cases hq2 : q = 2
          · subst hq2
            have F := Lib.hid (FIN.out r (c + 1) (by simp [nextR]) (by simp [nextC]))
            clear FIN hq1 hq1'
            go_wp2_with fail
            go_roundw
            case rel => exact ⟨k + 1, r, c + 1, _, by omega, by go_num, rfl, by go_num, by omega, by omega, F.out⟩
            case measure => simp [intOf]; omega
          · have hq2' : (q == 2) = false := by simpa using hq2
            have F := Lib.hid (FIN.out r c (by simp [nextR, hq1]) (by simp [nextC, hq2]))
            clear FIN hq1 hq2
            go_wp2_with fail
            go_roundw
            case rel => exact ⟨k + 1, r, c, _, by omega, by go_num, rfl, rfl, by omega, by omega, F.out⟩
            case measure => simp [intOf]; omega
      · have hE0' : (E == 0) = false := by simpa using hE0
        have F := Lib.hid (FIN.out r c (by simp [nextR, hE0]) (by simp [nextC, hE0]))
        clear FIN hE0
        go_wp2_with fail
        go_roundw
        case rel => exact ⟨k + 1, r, c, _, by omega, by go_num, rfl, rfl, by omega, by omega, F.out⟩
        case measure => simp [intOf]; omega
    · have hr' : r ≤ 60 := by omega
      have hc' : c ≤ 60 := by omega
      obtain ⟨va, vc, rfl, _⟩ := R3.out.form
      have HC := Lib.hid (calls_is m x n r c D wr D3.out)
      go_wp2_with fail
      refine HC.out.mono ?_
      rintro e w5 ⟨rfl, b5⟩
      have D5 := Lib.hid (D3.out.fresh b5)
      have R5 := Lib.hid (R3.out.only (Only.of_below (F := fun _ => False) b5) (fun _ _ h => h))
      have B5 : Hid (Below x w w5) := B3.out.trans (b5.mono (by omega))
      clear b5 HC hr hc
      go_wp2_with fail
      go_loopw [18] (fun i wr => ∃ j : Nat, j ≤ n ∧ i = .int .i64 j ∧ ReadInv m x n r c j D w5 wr) (fun i _ => n - (intOf i).toNat)
      case atStart => exact ⟨0, Nat.zero_le _, rfl, D5.out, Only.refl _ _⟩
      case round =>
        obtain ⟨j, hj, rfl, d6, o6⟩ := hrel
        have D6 := Lib.hid d6
        have O6 := Lib.hid o6
        have R6 := Lib.hid (R5.out.only o6 (fun b h1 h2 => by rcases h2 with h2 | h2; exact h1.1 h2; exact h1.2 h2))
        have B6 : Hid (Below x w wr) := B5.out.trans (o6.below S.out (Nat.le_of_lt D5.out.xlt))
        clear d6 o6
        by_cases hlj : j < n
        · have hlj' : (j : Int) < n := by omega
          have HR := Lib.hid (read_yes m x n (r + j) c D j wr D6.out hlj (by omega))
          go_wp2_with fail
          refine HR.out.mono ?_
          rintro e w7 ⟨g, cp, rfl, hown, d7, o7⟩
          obtain ⟨sb, so, ra, rc, rfl, hcell, hbt⟩ := (R6.out.only o7 (fun b h1 h2 => h1.1 h2)).at_ hlj
          have HSM := Lib.hid (same_eq _ _ _ w7 (Vals.of_own (by rw [List.length_map, sec_len]; exact hown)) hbt)
          have F : Hid (ReadInv m x n r c (j + 1) D w5 w7) := ⟨d7, O6.out.then_ o7 (fun _ _ h => .inl h)⟩
          clear hown d7 o7 hbt HR
          go_wp2_with fail
          refine HSM.out.mono ?_
          rintro e w8 ⟨rfl, rfl⟩
          go_wp2_with fail
          go_roundw
          case rel => exact ⟨j + 1, by omega, by go_num, F.out⟩
          case measure => simp [intOf]; omega
        · obtain rfl : n = j := by omega
          have HU := Lib.hid (used_any m x n (r + n) c D wr D6.out)
          have hcu := cntU_le D n
          have HV := Lib.hid (fun w' (b : Below wr.heap.size wr w') => usedref_any _ n D w' (R6.out.only (Only.of_below (F := fun _ => False) b) (fun _ _ h => h)) (by omega))
          generalize cntU D n = Q at hcu HU HV
          go_wp2_with fail
          refine HU.out.mono ?_
          rintro e w7 ⟨rfl, b7⟩
          go_wp2_with fail
          refine (HV.out w7 b7).mono ?_
          rintro e w8 ⟨rfl, rfl⟩
          have HL := Lib.hid (len_any m x n (r + n) c D w7 (D6.out.fresh b7))
          have B7 : Hid (Below x w w7) := B6.out.trans (b7.mono (Nat.le_of_lt D6.out.xlt))
          have Z7 : Hid (x ≤ w7.heap.size) := Nat.le_trans (Nat.le_of_lt D6.out.xlt) b7.size
          clear b7 HU HV
          go_wp2_with fail
          refine HL.out.mono ?_
          rintro e w8 ⟨rfl, rfl⟩
          go_wp2_with fail
          refine (known_true w7).mono ?_
          rintro e w9 ⟨rfl, b9⟩
          go_wp2_with fail
          go_ret
          exact ⟨rfl, by rw [HX.out.1]; exact B7.out.trans (b9.mono Z7.out)⟩

theorem walk (w : World) (n : Int) (_wn : (Lit.int .i64 n).wf = true) (v : Value) (len : Nat) (hd : Dos w v len) :
    Calls Try.prog 3 #[.int .i64 n, v] w fun e w' => e = .returned (.bool true) ∧ Below w.heap.size w w' := by
  by_cases h : (200 < n ∧ n ≤ 20000) ∨ 60 < len
  · exact walk_big w n v len hd h
  · by_cases hn : n < 0 ∨ 20000 < n
    · exact walk_no w n v len hd hn (by omega)
    · obtain ⟨n, rfl⟩ := Int.eq_ofNat_of_zero_le (show 0 ≤ n by omega)
      exact walk_small w n v len hd (by omega) (by omega)

set_option maxRecDepth 100000 in
theorem lifted (os : Os) (started : os.Started) (H : Type) (enc : TypeId × Value → H) :
    ReturnsInHanded {} Try.checked os 3 .any (Rows.diskStepsSpec.pre6 enc Try.prog Try.f3 Rows.diskStepsRow.domain false) (Rows.diskStepsSpec.post enc Try.prog Try.f3 false true false false) := by
  refine returnsInHanded_of_change (C := Try.checked) Try.own started (by kernel_rfl) Try.func3
    (ChangeSpec.witness6 (enc := enc) (C := Try.checked) false ⟨#[], #[.int .i64 0, .slice none 0 0], []⟩ 8 (by kernel_rfl) (by kernel_rfl) (by kernel_rfl) (by kernel_rfl)) ?_
  intro W base args ds gs before hval0 hW _ _
  have hval : ∀ (j : Nat) t v, Try.f3.params[j]? = some t → args[j]? = some v → Value.okWide Try.prog W .any base t v := hval0
  have hW' := hW
  obtain ⟨p, q, hA0, hV, rfl, _, _⟩ := hW
  have hA : DataW.TrodAll enc Try.prog W 0 (fun _ => true) true Try.f3.params.toList args.toList ds p := hA0
  rw [Try.params3] at hA hval
  obtain ⟨v0, vs0, d0, ds0, p0, q0, hargs, rfl, rfl, h0, r0⟩ := trodAll_cons hA
  obtain ⟨v1, vs1, d1, ds1, p1, q1, rfl, rfl, rfl, h1, r1⟩ := trodAll_cons r0
  obtain ⟨rfl, rfl, rfl⟩ := trodAll_nil r1
  obtain rfl : args = #[v0, v1] := by cases args; simp_all
  obtain ⟨rfl, rfl⟩ := trodVars_none hV
  obtain ⟨a0, rfl, rfl, rfl, w0⟩ := open_int Try.underlying3 (hval 0 3 v0 rfl rfl) h0
  clear hA0 hval0
  simp only [List.append_nil] at hW'
  obtain ⟨x1, hb1⟩ := open_dos (hval 1 22 v1 rfl rfl) h1
  have hlt1 : ∀ x ∈ p1, x.block < W.heap.size := fun x hx => by simpa using hW'.lt x (by simp [hx])
  refine (walk W a0 w0 v1 x1 hb1).mono fun e W' ⟨he, hg⟩ => ?_
  subst he
  exact ⟨_, rfl, _, _, _, [], _, [], hW', (trodAll_cons_mk (shut_bool Try.underlying4 _) trodAll_mk0), (trodAll_cons_mk (shut_int Try.underlying3 w0) (trodAll_cons_mk (Below.trod Try.laidOut (by kernel_rfl) (of_decide_eq_true (by kernel_rfl)) h1 hg hlt1) trodAll_mk0)), rfl, hg.frame _, fun h => by cases h⟩

theorem row_over : Rows.diskStepsRow.holds Try.pinned (OpenSpec.ofChange Rows.diskStepsSpec) :=
  OpenClaim.holds_of_wide 3 Try.f3 rfl rfl rfl rfl rfl rfl rfl ⟨rfl, rfl, rfl, rfl, rfl⟩ rfl rfl rfl rfl rfl (by kernel_rfl) Try.func3 (by kernel_rfl)
    (of_decide_eq_true (by kernel_rfl)) (by unfold Func.isWrapper; first | (rw [if_pos (by decide +kernel)]; kernel_rfl) | (rw [if_neg (by decide +kernel)]; exact ⟨rfl, rfl⟩))
    (fun os started H enc _ => lifted os started H enc)
end Go.Proofs.Ytpijefkkhhgbfaa.diskSteps
namespace Go.Proofs.Ytpijefkkhhgbfaa
theorem diskSteps_holds : Rows.DiskStepsSaid := diskSteps.row_over
end Go.Proofs.Ytpijefkkhhgbfaa
