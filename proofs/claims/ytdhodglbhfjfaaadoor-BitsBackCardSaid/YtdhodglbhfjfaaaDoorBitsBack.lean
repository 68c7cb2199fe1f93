/- Proved: for every int n, every row of things to do and every int ask the law BitsBack returns true: what is taken where there is room first, and freed again, leaves a map as it was. No condition but that math/bits' table starts as the program's text lays it, which the card ties. -/
import Derived.Test.YtdhodglbhfjfaaaDoorDo
namespace Go.Proofs.YtdhodglbhfjfaaaDoor.bitsBack
open Go.ChangeShapes Go.WideShapes Go.ChangeAt Go.RowKit

/-- What the laws' loop leaves: some map of the same size. -/
def Looped (m x n : Nat) (w1 wx : World) : Prop := ∃ S, MapAt wx m x n S ∧ But x w1 wx

theorem flip_flip (S : Nat → Bool) (f c : Nat) : flipS (flipS S f c) f c = S := by
  funext i
  simp [flipS]

set_option maxHeartbeats 4000000 in
theorem walk_big (w : World) (hT : Tab w) (h0 : 0 < w.heap.size) (n ask : Int) (v : Value) (len : Nat) (hd : Dos w v len) (h : 3000 < n ∨ n < 0 ∨ 60 < len) :
    Calls Tryd.prog 3 #[.int .i64 n, v, .int .i64 ask] w fun e w' => e = .returned (.bool true) ∧ Below w.heap.size w w' := by
  obtain ⟨a, c, rfl, hm, _⟩ := hd
  unfold maxLen at hm
  have HK := Lib.hid (known_true w hT h0)
  clear hT
  by_cases h1 : 3000 < n
  · go_enter Tryd.func3, Tryd.ntmps3
    go_wp2_with (go_at_call 8; refine HK.out.mono ?_; rintro e w1 ⟨rfl, hb⟩)
    go_ret
    exact ⟨rfl, hb⟩
  · by_cases h2 : n < 0
    · go_enter Tryd.func3, Tryd.ntmps3
      go_wp2_with (go_at_call 8; refine HK.out.mono ?_; rintro e w1 ⟨rfl, hb⟩)
      go_ret
      exact ⟨rfl, hb⟩
    · have h3 : (60 : Int) < len := by omega
      go_enter Tryd.func3, Tryd.ntmps3
      go_wp2_with (go_at_call 8; refine HK.out.mono ?_; rintro e w1 ⟨rfl, hb⟩)
      go_ret
      exact ⟨rfl, hb⟩

set_option maxHeartbeats 4000000 in
theorem walk_small (w : World) (hT : Tab w) (h0 : 0 < w.heap.size) (n : Nat) (ask : Int) (wk : (Lit.int .i64 ask).wf = true) (v : Value) (len : Nat) (hd : Dos w v len) (hn : n ≤ 3000) (hl : len ≤ 60) :
    Calls Tryd.prog 3 #[.int .i64 n, v, .int .i64 ask] w fun e w' => e = .returned (.bool true) ∧ Below w.heap.size w w' := by
  have HD := Lib.hid hd
  obtain ⟨a, c, rfl, _, hd'⟩ := hd
  have HD' := Lib.hid hd'
  have HT := Lib.hid hT
  have HN := Lib.hid (new_yes n w (by omega))
  clear hd' hT
  obtain ⟨m, hm⟩ : ∃ m, w.heap.size + 1 = m := ⟨_, rfl⟩
  obtain ⟨x, hx⟩ : ∃ x, w.heap.size = x := ⟨_, rfl⟩
  have HX := Lib.hid hx
  rw [hm, hx] at HN
  clear hm hx
  have h1 : ¬ (3000 : Int) < n := by omega
  have h2 : ¬ (n : Int) < 0 := by omega
  have h3 : ¬ (60 : Int) < len := by omega
  go_enter Tryd.func3, Tryd.ntmps3
  go_wp2_with fail
  refine HN.out.mono ?_
  rintro e w1 ⟨rfl, m1, b1⟩
  have M1 := Lib.hid m1
  have B1 := Lib.hid (show Below x w w1 from b1)
  clear m1 b1 HN
  go_wp2_with fail
  go_loopw [9] (fun i wx => ∃ k : Nat, k ≤ len ∧ i = .int .i64 k ∧ Looped m x n w1 wx) (fun i _ => len - (intOf i).toNat)
  case atStart => exact ⟨0, Nat.zero_le _, rfl, _, M1.out, But.refl _ _⟩
  case round =>
    obtain ⟨k, hk, rfl, S, hm, hbut⟩ := hrel
    have HB := Lib.hid hbut
    have HM := Lib.hid hm
    have HW : Hid (Below x w wr) := B1.out.trans (hbut.below (Nat.le_refl _) (by rw [← HX.out]; exact B1.out.size))
    clear hm hbut
    by_cases hlt : k < len
    · obtain ⟨b, off, rfl, hall⟩ := HD'.out.resolve_left (by omega)
      obtain ⟨kd, f, q, w1', w2', w3', c1, c2, c3⟩ := hall k hlt
      have hbx : b < x := by rw [← HX.out]; exact World.block_lt_of_cell? _ _ c1
      have r1 : wr.cell? ⟨b, off + k * 3, none⟩ = some (.int .i64 kd) := (HW.out.cell (p := ⟨b, _, none⟩) hbx).trans c1
      have r2 : wr.cell? ⟨b, off + k * 3 + 1, none⟩ = some (.int .i64 f) := (HW.out.cell (p := ⟨b, _, none⟩) hbx).trans c2
      have r3 : wr.cell? ⟨b, off + k * 3 + 2, none⟩ = some (.int .i64 q) := (HW.out.cell (p := ⟨b, _, none⟩) hbx).trans c3
      have HO := Lib.hid (done_any m x n S kd f q wr HM.out w2' w3')
      have hlt' : (k : Int) < len := by omega
      clear c1 c2 c3 hall w1' w2' w3'
      go_wp2_with fail
      refine HO.out.mono ?_
      rintro e w2 ⟨r, S', rfl, hm2, hb2⟩
      have HM2 := Lib.hid hm2
      have HB2 := Lib.hid (HB.out.trans hb2)
      clear hm2 hb2
      go_wp2_with fail
      go_roundw
      case rel => exact ⟨k + 1, by omega, by go_num, S', HM2.out, HB2.out⟩
      case measure => simp [intOf]; omega
    · have hsz : Hid (0 < wr.heap.size ∧ x < wr.heap.size ∧ 0 < x) := by
        have h1 := HW.out.size
        have h2 := HX.out
        have h3 := HM.out.xlt
        show _ ∧ _
        omega
      have TR : Hid (Tab wr) := HT.out.below HW.out hsz.out.2.2
      have HF := Lib.hid (flat_any m x n S wr HM.out TR.out)
      clear HB HD' HD
      go_wp2_with fail
      refine HF.out.mono ?_
      rintro e w2 ⟨v0, rfl, hown, hb2⟩
      have I2 := Lib.hid (intRow_own hown)
      have HV : Hid (∀ g off n c, v0 = .slice (some ⟨g, off, none⟩) n c → g ≠ x) := fun g off n' c' e => by
        subst e
        have := (hown.lt g rfl).1
        have := hsz.out
        omega
      have B2 := Lib.hid hb2
      have M2 := Lib.hid (HM.out.below hb2)
      have T2 : Hid (Tab w2) := TR.out.below hb2 hsz.out.1
      have G2 : Hid (Below x w w2) := HW.out.trans (hb2.mono (by have := hsz.out; omega))
      have Z2 : Hid (0 < w2.heap.size ∧ x < w2.heap.size) := by have h1 := hsz.out; have h2 := hb2.size; show _ ∧ _; omega
      have hrl := runs_len S n
      have hrl2 := rl_len (runs S n)
      have HL : Hid ((rl (runs S n)).length ≤ 1000000) := by show _ ≤ _; omega
      clear hown hb2 HF hrl hrl2
      have hcl := cnt_le S 0 n
      have HK2 := Lib.hid (taken_any m x n S w2 M2.out)
      obtain ⟨q, hq⟩ : ∃ q, cnt S 0 n = q := ⟨_, rfl⟩
      have HQ := Lib.hid hq
      rw [hq] at HK2 hcl
      clear hq
      go_wp2_with fail
      refine HK2.out.mono ?_
      rintro e w3 ⟨rfl, d3, rfl⟩
      have FK : Hid (∀ d, Calls Tryd.prog 8 #[] (w2.drewN d) fun e w' => e = .returned (.bool true) ∧ Below x w w') := fun d =>
        (known_true (w2.drewN d) T2.out Z2.out.1).mono fun e w' ⟨he, hb⟩ => ⟨he, G2.out.trans (Below.mono ⟨hb.os, hb.tape, hb.output, hb.size, hb.block⟩ (Nat.le_of_lt Z2.out.2))⟩
      by_cases hask : ask < 1
      · go_wp2_with fail
        refine (first_no m ask _ hask).mono ?_
        rintro e w4 ⟨rfl, rfl⟩
        go_wp2_with fail
        refine (FK.out _).mono ?_
        rintro e w5 ⟨rfl, hb5⟩
        go_wp2_with fail
        go_ret
        exact ⟨rfl, by rw [HX.out]; exact hb5⟩
      · obtain ⟨c', rfl⟩ := Int.eq_ofNat_of_zero_le (show 0 ≤ ask by omega)
        have hwk := wf_i64 wk
        have HFi := Lib.hid (fun d => first_any m x n S c' (w2.drewN d) (M2.out.drewN d) T2.out (by omega) (by omega))
        go_wp2_with fail
        refine (HFi.out _).mono ?_
        rintro e w4 ⟨at', ok, d4, rfl, hfi, rfl⟩
        rcases hfi with ⟨rfl, hf1, hf2, _⟩ | ⟨rfl, rfl, _⟩
        · have hS0 : cnt S at' c' = 0 := cnt_none hf2
          have hS1 : cnt (flipS S at' c') at' c' = c' := cnt_all fun k hk => by
            have hin : inR at' c' (at' + k) = true := by simp [inR]; omega
            simp only [flipS, hin, hf2 k hk, Bool.false_xor]
          have hS2 : cnt (flipS S at' c') 0 n = q + c' := by rw [cnt_flip S at' c' n hS0 hf1, HQ.out]
          have H0 := Lib.hid hS0
          have H1 := Lib.hid hS1
          have H2 := Lib.hid hS2
          clear hf2 hS0 hS1 hS2 FK HFi
          go_wp2_with fail
          refine (take_yes m x n S at' c' _ ?c1 (by omega) hf1 H0.out).mono ?_
          case c1 => exact M2.out.heap rfl
          rintro e w5 ⟨rfl, q5, b5⟩
          have M5 := Lib.hid q5
          have B5 : Hid (But x w2 w5) := ⟨b5.os, b5.tape, b5.output, b5.size, b5.block⟩
          clear q5 b5
          go_wp2_with fail
          refine (take_full m x n _ at' c' w5 M5.out (by omega) hf1 (by rw [H1.out]; omega)).mono ?_
          rintro e w6 ⟨rfl, d6, rfl⟩
          go_wp2_with fail
          refine (taken_any m x n (flipS S at' c') _ ?c2).mono ?_
          case c2 => exact M5.out.heap rfl
          rw [H2.out, show ((q + c' : Nat) : Int) = (q : Int) + c' by omega]
          rintro e w7 ⟨rfl, d7, rfl⟩
          go_wp2_with fail
          refine (free_yes m x n (flipS S at' c') at' c' _ ?c3 (by omega) hf1 H1.out).mono ?_
          case c3 => exact M5.out.heap rfl
          rw [flip_flip]
          rintro e w8 ⟨rfl, q8, b8⟩
          have M8 := Lib.hid q8
          have B8 : Hid (But x w2 w8) := B5.out.trans ⟨b8.os, b8.tape, b8.output, b8.size, b8.block⟩
          have T8 : Hid (Tab w8) := T2.out.but B8.out Z2.out.1 hsz.out.2.2
          clear q8 b8
          go_wp2_with fail
          refine (free_none m x n S at' c' w8 M8.out (by omega) hf1 (by rw [H0.out]; omega)).mono ?_
          rintro e w9 ⟨rfl, d9, rfl⟩
          go_wp2_with fail
          refine (taken_any m x n S _ ?c4).mono ?_
          case c4 => exact M8.out.heap rfl
          rw [HQ.out]
          rintro e w10 ⟨rfl, d10, rfl⟩
          go_wp2_with fail
          refine (flat_any m x n S _ ?c5 ?c6).mono ?_
          case c5 => exact M8.out.heap rfl
          case c6 => exact T8.out
          rintro e w11 ⟨v1, rfl, hown1, hb11⟩
          have I11 := Lib.hid (intRow_own hown1)
          have B11 : Hid (Below w8.heap.size w8 w11) := ⟨hb11.os, hb11.tape, hb11.output, hb11.size, hb11.block⟩
          have J11 : Hid (IntRow w11 v0 (rl (runs S n))) := (I2.out.but B8.out HV.out).below B11.out
          have T11 : Hid (Tab w11) := T8.out.below B11.out (by have h1 := M8.out.mlt; omega)
          clear hown1 hb11
          go_wp2_with fail
          refine (sameInts_any v1 v0 _ w11 I11.out J11.out HL.out).mono ?_
          rintro e w12 ⟨rfl, d12, rfl⟩
          go_wp2_with fail
          refine (known_true _ ?c7 ?c8).mono ?_
          case c7 => exact T11.out
          case c8 => exact (show 0 < w11.heap.size by have h1 := M8.out.mlt; have h2 := B11.out.size; omega)
          rintro e w13 ⟨rfl, hb13⟩
          have B13 : Hid (Below w11.heap.size w11 w13) := ⟨hb13.os, hb13.tape, hb13.output, hb13.size, hb13.block⟩
          clear hb13
          go_wp2_with fail
          go_ret
          refine ⟨rfl, ?_⟩
          have hx := HX.out
          subst hx
          have g8 := G2.out.trans (B8.out.below (Nat.le_refl _) G2.out.size)
          have g11 := g8.trans (B11.out.mono g8.size)
          exact g11.trans (B13.out.mono g11.size)
        · go_wp2_with fail
          refine (FK.out _).mono ?_
          rintro e w5 ⟨rfl, hb5⟩
          go_wp2_with fail
          go_ret
          exact ⟨rfl, by rw [HX.out]; exact hb5⟩

theorem walk (w : World) (hT : Tab w) (h0 : 0 < w.heap.size) (n : Int) (_wn : (Lit.int .i64 n).wf = true) (v : Value) (len : Nat) (hd : Dos w v len) (ask : Int) (wk : (Lit.int .i64 ask).wf = true) :
    Calls Tryd.prog 3 #[.int .i64 n, v, .int .i64 ask] w fun e w' => e = .returned (.bool true) ∧ Below w.heap.size w w' := by
  by_cases h : 3000 < n ∨ n < 0 ∨ 60 < len
  · exact walk_big w hT h0 n ask v len hd h
  · obtain ⟨k, rfl⟩ := Int.eq_ofNat_of_zero_le (show 0 ≤ n by omega)
    exact walk_small w hT h0 k ask wk v len hd (by omega) (by omega)


set_option maxRecDepth 100000 in
theorem lifted (os : Os) (started : os.Started) (H : Type) (enc : TypeId × Value → H) :
    ReturnsInHanded {} Tryd.checked os 3 .any (fun w args => (Rows.bitsBackSpec.pre enc Tryd.prog Tryd.f3 [] false w args ∧ laidMetH Tryd.prog theLaid w) ∧ sizedMet enc Tryd.prog Tryd.f3 (OpenSpec.ofChange Rows.bitsBackSpec) false w args)
      (Rows.bitsBackSpec.post enc Tryd.prog Tryd.f3 false true false false) := by
  refine returnsInHanded_of_change_and (C := Tryd.checked) (X := fun w _ => laidMetH Tryd.prog theLaid w) (fun _ _ _ hh h => h.of_heap hh) Tryd.own started (by kernel_rfl) Tryd.func3
    (ChangeSpec.witness_shaped (enc := enc) (C := Tryd.checked) (os := os) (X := fun w _ => laidMetH Tryd.prog theLaid w) false (World.doorLaid Tryd.prog 400 os) #[.int .i64 0, .slice none 0 0, .int .i64 0] 8 rfl (World.shaped_of_RefB (by kernel_rfl) (by kernel_rfl)) (by kernel_rfl) (by kernel_rfl) (by kernel_rfl) (door_met os _)) ?_
  intro W base args ds gs before hval0 hW _ _ hL _
  have hval : ∀ (j : Nat) t v, Tryd.f3.params[j]? = some t → args[j]? = some v → Value.okWide Tryd.prog W .any base t v := hval0
  have hW' := hW
  obtain ⟨p, q, hA0, hV, rfl, _, _⟩ := hW
  have hA : DataW.TrodAll enc Tryd.prog W 0 (fun _ => true) true Tryd.f3.params.toList args.toList ds p := hA0
  rw [Tryd.params3] at hA hval
  obtain ⟨v0, vs0, d0, ds0, p0, q0, hargs, rfl, rfl, h0, r0⟩ := trodAll_cons hA
  obtain ⟨v1, vs1, d1, ds1, p1, q1, rfl, rfl, rfl, h1, r1⟩ := trodAll_cons r0
  obtain ⟨v2, vs2, d2, ds2, p2, q2, rfl, rfl, rfl, h2, r2⟩ := trodAll_cons r1
  obtain ⟨rfl, rfl, rfl⟩ := trodAll_nil r2
  obtain rfl : args = #[v0, v1, v2] := by cases args; simp_all
  obtain ⟨rfl, rfl⟩ := trodVars_none hV
  obtain ⟨a0, rfl, rfl, rfl, w0⟩ := open_int Tryd.underlying3 (hval 0 3 v0 rfl rfl) h0
  obtain ⟨a2, rfl, rfl, rfl, w2⟩ := open_int Tryd.underlying3 (hval 2 3 v2 rfl rfl) h2
  clear hA0 hval0
  simp only [List.append_nil] at hW'
  obtain ⟨x1, hb1⟩ := open_dos (hval 1 22 v1 rfl rfl) h1
  have hlt1 : ∀ x ∈ p1, x.block < W.heap.size := fun x hx => by simpa using hW'.lt x (by simp [hx])
  obtain ⟨hT, h00⟩ := tab_of_laid hL
  refine (walk W hT h00 a0 w0 v1 x1 hb1 a2 w2).mono fun e W' ⟨he, hg⟩ => ?_
  subst he
  exact ⟨_, rfl, _, _, _, [], _, [], hW', (trodAll_cons_mk (shut_bool Tryd.underlying4 _) trodAll_mk0), (trodAll_cons_mk (shut_int Tryd.underlying3 w0) (trodAll_cons_mk (Below.trod Tryd.laidOut (by kernel_rfl) (of_decide_eq_true (by kernel_rfl)) h1 hg hlt1) (trodAll_cons_mk (shut_int Tryd.underlying3 w2) trodAll_mk0))), rfl, hg.frame _, fun h => by cases h⟩

theorem over : Rows.bitsBackRow.holds Tryd.pinned (OpenSpec.ofChange Rows.bitsBackSpec) :=
  OpenClaim.holds_of_wide 3 Tryd.f3 rfl rfl rfl rfl rfl rfl rfl ⟨rfl, rfl, rfl, rfl, rfl⟩ rfl rfl rfl rfl rfl (by kernel_rfl) Tryd.func3 (by kernel_rfl)
    (of_decide_eq_true (by kernel_rfl)) (by unfold Func.isWrapper; first | (rw [if_pos (by decide +kernel)]; kernel_rfl) | (rw [if_neg (by decide +kernel)]; exact ⟨rfl, rfl⟩))
    (fun os started H enc _ => lifted os started H enc)
end Go.Proofs.YtdhodglbhfjfaaaDoor.bitsBack
namespace Go.Proofs.YtdhodglbhfjfaaaDoor
open Go
theorem bitsBack_holds : Rows.BitsBackCardSaid :=
  Claim7.holds_tied_plain_at .later [] [.data] true (true, "5e291a71a13c3398cfc2698423a671421766ed3e1958b79b578a83f7829fa2b9") false
    bitsBack.over (fun _ h => by cases h) (by kernel_rfl) (fun _ h => by cases h) bitsBack_row_tie rfl ⟨rfl, rfl⟩ (by kernel_rfl) rfl
    (fun f fn hf hfn => by
      obtain rfl : f = 3 := Option.some.inj ((show Tryd.prog.funcNamed Rows.bitsBackRow.func = some 3 by kernel_rfl).symm.trans hf) |>.symm
      obtain rfl : fn = Tryd.f3 := (Option.some.inj (Tryd.func3.symm.trans hfn)).symm
      exact ⟨by kernel_rfl, fun j t ht => by
        rw [Tryd.params3] at ht
        have hm : t ∈ [3, 22, 3] := by simpa using Array.mem_of_getElem? ht
        have hall : ([3, 22, 3].all fun u => !Tryd.prog.wantsStandIn u) = true := by kernel_rfl
        exact (show Tryd.prog.wantsStandIn t = false by simpa using List.all_eq_true.1 hall t hm)⟩)
    (by kernel_rfl)
end Go.Proofs.YtdhodglbhfjfaaaDoor
