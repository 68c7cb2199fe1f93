/- The walk of the law ExtentBack. No condition but that math/bits' table lies in memory as its text lays it. -/
import Derived.Test.YtkjpemgoiobeeaaDoorERows
namespace Go.Proofs.YtkjpemgoiobeeaaDoor.extentBack
set_option maxRecDepth 1000000
open Go.ChangeShapes Go.WideShapes Go.ChangeAt Go.RowKit

def BkInv (s : Sp) (n B : Nat) (R : List Row) (w wr : World) (v : Value) : Prop :=
  SpaceAt wr s n (2 * R.length) R ∧ OwnX B wr v (R.map ext) ∧ Below w.heap.size w wr ∧ B ≤ wr.heap.size ∧ (R = [] → v = .slice none 0 0)

theorem rem_all (R : List Row) : remOf R (R.map ext) = [] := by
  rw [List.eq_nil_iff_forall_not_mem]
  intro r hr
  have h1 : isX (remOf R (R.map ext)) (ext r) = true := isX_iff.2 ⟨r, hr, rfl⟩
  rw [isX_remOf, Bool.and_eq_true, Bool.not_eq_true', decide_eq_false_iff_not] at h1
  obtain ⟨q, hq, he⟩ := isX_iff.1 h1.1
  exact h1.2 (List.mem_map.2 ⟨q, hq, he⟩)
theorem ok_all {n : Nat} {R : List Row} (h : Good n R) : okX R (R.map ext) := by
  refine ⟨fun x hx => ?_, ?_⟩
  · obtain ⟨r, hr, rfl⟩ := List.mem_map.1 hx
    exact isX_iff.2 ⟨r, hr, rfl⟩
  · exact List.pairwise_map.2 (h.apart.imp fun hab => ext_inj hab)
theorem bad_twice {R : List Row} {X : List Ext} (h : X ≠ []) : ¬ okX R (X ++ X) := by
  rintro ⟨_, h2⟩
  obtain ⟨x, t, rfl⟩ : ∃ x t, X = x :: t := by
    cases X with
    | nil => exact absurd rfl h
    | cons x t => exact ⟨x, t, rfl⟩
  have := (List.nodup_append.1 h2).2.2 x (by simp) x (by simp)
  exact this rfl

set_option maxHeartbeats 8000000 in
theorem walk (w : World) (hT : Tab w) (h0 : 0 < w.heap.size) (v : Value) (len0 : Nat) (hv : RowsB w v len0) (m : Int) (wm : (Lit.int .u8 m).wf = true) :
    Calls Tryd.prog 4 #[v, .int .u8 m] w fun e w' => e = .returned (.bool true) ∧ Below w.heap.size w w' := by
  obtain ⟨h1, h2⟩ := wf_u8 wm
  obtain ⟨n, rfl⟩ := Int.eq_ofNat_of_zero_le h1
  have hn : n ≤ 255 := by omega
  have HV := Lib.hid hv
  have HT := Lib.hid hT
  obtain ⟨i0, hi, hz0, hz1, hz2⟩ := info_parts Tryd.info32
  obtain ⟨a0, c0, rfl, hlm, _⟩ := hv
  unfold maxLen at hlm
  have HN := Lib.hid (enew_yes n w (by omega) hT h0)
  have HK := Lib.hid (known_true w hT h0)
  clear hT wm
  go_enter Tryd.func4, Tryd.ntmps4
  go_wp2_with fail
  go_loop [5, 6] (fun z i => ∃ (k : Nat) (y : Int), k ≤ len0 ∧ i = .int .i64 k ∧ z = .int .i64 y) (fun _ i => len0 - (intOf i).toNat)
  case atStart => exact ⟨0, 0, Nat.zero_le _, rfl, rfl⟩
  case round =>
    obtain ⟨k, y, hk, rfl, rfl⟩ := hrel
    by_cases hlt : k < len0
    · obtain ⟨b, off, c, he, _, ba, bc, bs, _, _, hbl, hcell⟩ := HV.out.at_ hlt (Below.refl _ _)
      unfold maxLen at hbl
      injection he with e1 e2 e3
      subst e1 e3
      go_wp2_with fail
      go_round
      case rel => exact ⟨k + 1, _, by omega, by go_num, rfl⟩
      case measure => simp [intOf]; omega
    · by_cases hy : 5000 < y
      · go_wp2_with fail
        refine HK.out.mono ?_
        rintro e w1 ⟨rfl, hb⟩
        go_wp2_with fail
        go_ret
        exact ⟨rfl, hb⟩
      · go_wp2_with fail
        refine HN.out.mono ?_
        rintro e w1 ⟨s, rfl, s1, hlo, b1⟩
        have S1 := Lib.hid s1
        have B1 := Lib.hid b1
        have HLO := Lib.hid hlo
        have HF : Hid (∀ i, i < w.heap.size → ¬ s.F i) := fun i hi hf => by have := hf.1; omega
        obtain ⟨B, hB⟩ : ∃ B, w1.heap.size = B := ⟨_, rfl⟩
        have HB := Lib.hid hB
        have HFB : Hid (∀ b, B ≤ b → ¬ s.F b) := fun b hb hf => by have := hf.2; have := s1.lt; omega
        have HB0 : Hid (w.heap.size ≤ B ∧ s.sp < B ∧ 0 < B) := ⟨by rw [← hB]; exact b1.size, by rw [← hB]; exact s1.lt, by have := b1.size; omega⟩
        clear s1 b1 hlo HN hB HK
        go_wp2_with fail
        go_loopw [9, 10, 11] (fun v u i wr => ∃ (k : Nat) (R : List Row), k ≤ len0 ∧ i = .int .i64 k ∧ u = .int .i64 (total R) ∧ BkInv s n B R w wr v) (fun _ _ i _ => len0 - (intOf i).toNat)
        case atStart => exact ⟨0, [], Nat.zero_le _, rfl, rfl, S1.out, World.ownsRow_nil _ _ _ _, B1.out, by rw [HB.out]; exact Nat.le_refl _, fun _ => rfl⟩
        case round =>
          obtain ⟨k, R, hk, rfl, rfl, hs, hown, hb, hBw, hnil⟩ := hrel
          have ht := total_le hs.good
          have hlt2 := len_total R
          by_cases hlt : k < len0
          · obtain ⟨b, off, c, he, hbw, ba, bc, bs, hbs0, hby, hbl, hcell0⟩ := HV.out.at_ hlt (Below.refl _ _)
            unfold maxLen at hbl
            injection he with e1 e2 e3
            subst e1 e3
            have HBS4 : Hid (∀ w' : World, Below w.heap.size w w' → Bts (· < w.heap.size) w' (.slice ba bs.length bc) bs ∧ w'.cell? ⟨b, off + k, none⟩ = some (.slice ba bs.length bc)) := fun w' hb' =>
              ⟨hbs0.only (Only.of_below (F := fun _ => False) hb') (fun _ _ h => h), (hb'.cell (p := ⟨b, off + k, none⟩) hbw).trans hcell0⟩
            obtain ⟨hbs, hcell⟩ := HBS4.out wr hb
            clear hbs0 hcell0
            obtain ⟨a, ok, hF⟩ := first_ex (tk R) n (secs bs.length)
            have hq1 := secs_pos bs.length
            have hq2 : secs bs.length ≤ 200000000000000000 := by unfold secs; omega
            obtain ⟨q, hq⟩ : ∃ q, secs bs.length = q := ⟨_, rfl⟩
            have HQ := Lib.hid hq
            have HS := Lib.hid hs
            have HOW := Lib.hid hown
            have HBE := Lib.hid hb
            have HBS := Lib.hid hbs
            have HBW := Lib.hid hBw
            have HNIL := Lib.hid hnil
            obtain ⟨av, cv, rfl⟩ := hown.form
            clear hnil
            rw [List.length_map] at HOW HNIL ⊢
            obtain ⟨t, ht0⟩ : ∃ t, total R = t := ⟨_, rfl⟩
            have HTT := Lib.hid ht0
            rw [ht0] at ht hlt2 ⊢
            cases ok
            · have HF0 : Hid (t = 0 → n < q) := fun e => by
                have : R = [] := List.eq_nil_of_length_eq_zero (by omega)
                subst this
                have := full_empty hF
                omega
              have HP := Lib.hid (put_no s n _ R a _ bs wr hs hbs (by omega) hF)
              rw [hq] at hq1 hq2
              have HSE := Lib.hid (fun w' => sectors_any bs.length w' (by omega))
              rw [hq] at HSE
              have HCE : Hid (∀ w2 : World, Only s.F wr w2 → (w2.alloc (.cells #[.int .i64 0, .int .i64 0, .int .i64 0] 32)).cell? ⟨b, off + k, none⟩ = some (.slice ba bs.length bc)) := fun w2 o => by
                rw [World.cell?_alloc_lt _ _ _ (by have := o.size; have := hb.size; show b < _; omega)]
                exact (o.cell (p := ⟨b, off + k, none⟩) (by have := hb.size; show b < _; omega) (HF.out b hbw)).trans hcell
              clear hs hown hb hbs hBw hF hq ht0
              go_wp2_with fail
              refine HP.out.mono ?_
              rintro e w2 ⟨rfl, s2, o2⟩
              have hc2 := HCE.out w2 o2
              have S2 : Hid (SpaceAt (w2.alloc (.cells #[.int .i64 0, .int .i64 0, .int .i64 0] 32)) s n (2 * R.length) R) := s2.fresh ((Below.refl _ _).alloc (Nat.le_refl _) _)
              have O2 : Hid (Only s.F wr (w2.alloc (.cells #[.int .i64 0, .int .i64 0, .int .i64 0] 32))) := o2.alloc _
              clear s2 o2
              by_cases hcc : (q : Int) + t ≤ n - t
              · have ht1 : ((t : Int) == 0) = false := by
                  have := HF0.out
                  simp
                  intro e
                  have := this e
                  omega
                go_wp2_with fail
                refine (HSE.out _).mono ?_
                rintro e w3 ⟨rfl, rfl⟩
                go_wp2_with fail
                go_roundw
                case rel =>
                  refine ⟨k + 1, R, by omega, by go_num, by rw [HTT.out], S2.out, HOW.out.only O2.out HFB.out, ?_, ?_, HNIL.out⟩
                  · exact HBE.out.trans (O2.out.below HF.out HBE.out.size)
                  · exact Nat.le_trans HBW.out O2.out.size
                case measure => simp [intOf]; omega
              · have hcc' : decide ((q : Int) + t ≤ n - t) = false := by simpa using hcc
                go_wp2_with fail
                refine (HSE.out _).mono ?_
                rintro e w3 ⟨rfl, rfl⟩
                go_wp2_with fail
                go_roundw
                case rel =>
                  refine ⟨k + 1, R, by omega, by go_num, by rw [HTT.out], S2.out, HOW.out.only O2.out HFB.out, ?_, ?_, HNIL.out⟩
                  · exact HBE.out.trans (O2.out.below HF.out HBE.out.size)
                  · exact Nat.le_trans HBW.out O2.out.size
                case measure => simp [intOf]; omega
            · have hF' := hF
              rcases hF' with ⟨_, hroom, hfree, _⟩ | ⟨hx, _⟩
              case inr => cases hx
              have HP := Lib.hid (put_yes s n _ R a _ bs wr hs hbs (fun b hb => HF.out b hb) hby (by omega) (by omega) hF)
              have HOFF := Lib.hid (off_free (R := R) (r := (a, bs)) hfree)
              rw [hq] at hq1 hq2 hroom
              have hqs := secs_le bs.length
              rw [hq] at hqs
              have HSE := Lib.hid (fun w' => sectors_quiet bs.length w' (by omega))
              have HS2 := Lib.hid (fun w' => refsec_any bs.length w' (by omega))
              rw [hq] at HSE HS2
              have HS2 : Hid (∀ w', Calls Tryd.prog 24 #[.int .i64 bs.length] w' fun e w'' => e = .returned (.int .i64 q) ∧ ∃ d, w'' = w'.drewN d) := fun w' => (HS2.out w').mono fun _ _ ⟨he, hw⟩ => ⟨he, 0, hw.symm⟩
              have HCE : Hid (∀ w2 : World, Only s.F wr w2 → (w2.alloc (.cells #[.int .i64 a, .int .i64 q, .int .i64 bs.length] 32)).cell? ⟨b, off + k, none⟩ = some (.slice ba bs.length bc)) := fun w2 o => by
                rw [World.cell?_alloc_lt _ _ _ (by have := o.size; have := hb.size; show b < _; omega)]
                exact (o.cell (p := ⟨b, off + k, none⟩) (by have := hb.size; show b < _; omega) (HF.out b hbw)).trans hcell
              clear hs hown hb hbs hBw hF hq ht0 hfree
              go_wp2_with fail
              refine HP.out.mono ?_
              rintro e w2 ⟨rfl, s2, o2⟩
              rw [HQ.out]
              have hc2 := HCE.out w2 o2
              have x12 := box3_new w2 a q bs.length 32
              have S2 : Hid (SpaceAt (w2.alloc (.cells #[.int .i64 a, .int .i64 q, .int .i64 bs.length] 32)) s n (2 * R.length + 1) (R ++ [(a, bs)])) := s2.fresh ((Below.refl _ _).alloc (Nat.le_refl _) _)
              have O2 : Hid (Only s.F wr (w2.alloc (.cells #[.int .i64 a, .int .i64 q, .int .i64 bs.length] 32))) := o2.alloc _
              obtain ⟨p12, hp12⟩ : ∃ p, w2.heap.size = p := ⟨_, rfl⟩
              have HP12 : Hid (s.sp < p12 ∧ wr.heap.size ≤ p12) := ⟨by rw [← hp12]; exact s2.lt, by rw [← hp12]; exact o2.size⟩
              rw [hp12] at x12
              clear s2 o2
              go_wp2_with fail
              clear hp12
              generalize w2.alloc (.cells #[.int .i64 a, .int .i64 q, .int .i64 bs.length] 32) = w3 at hc2 x12 S2 O2 ⊢
              have X12 := Lib.hid x12
              obtain ⟨x1, x2, x3, _, _⟩ := x12
              have hlt' : (k : Int) < len0 := by omega
              have t0 : ¬ (a : Int) < 0 := by omega
              have t1 : decide ((n : Int) < a + q) = false := by simp; omega
              go_quiet (first | (go_at_call 23; exact Calls.quiet_of (HSE.out _)) | (go_at_call 24; exact Calls.quiet_of (HS2.out _)))
              have hbd : Below w3.heap.size w3 (w3.drewN nq) := below_drewN _ _ _
              have X12 := Lib.hid (X12.out.fresh hbd)
              have S4 := Lib.hid (S2.out.fresh hbd)
              have O4 : Hid (Only s.F wr (w3.drewN nq)) := O2.out.then_ (Only.of_below hbd : Only s.F w3 _) (fun _ _ h => h)
              have HC4 : Hid ((w3.drewN nq).cell? ⟨b, off + k, none⟩ = some (.slice ba bs.length bc)) := hc2
              clear hbd S2 O2 hc2 x1 x2 x3 t0 t1 hlt' HSE HS2 HCE HP
              generalize w3.drewN nq = w4 at X12 S4 O4 HC4 ⊢
              have HOW4 : Hid (OwnX B w4 (.slice av R.length cv) (R.map ext)) := HOW.out.only O4.out HFB.out
              have BE4 : Hid (Below w.heap.size w w4) := HBE.out.trans (O4.out.below HF.out HBE.out.size)
              have HBW4 : Hid (B ≤ w4.heap.size) := Nat.le_trans HBW.out O4.out.size
              go_wp2_with fail
              go_loopw [14] (fun i wx => ∃ j d : Nat, j ≤ R.length ∧ i = .int .i64 j ∧ wx = w4.drewN d) (fun i _ => R.length - (intOf i).toNat)
              case atStart => exact ⟨0, 0, Nat.zero_le _, rfl, rfl⟩
              case round =>
                obtain ⟨j, d, hj, rfl, hw⟩ := hrel
                have HW := Lib.hid hw
                by_cases hjl : j < R.length
                · obtain ⟨a', c', he, _, hcells⟩ := HOW4.out.exts
                  injection he with e1 e2 e3
                  subst e1 e3
                  obtain ⟨bl, ol, rfl, _, hcells⟩ := hcells.resolve_left (fun e => by
                    have := congrArg List.length e
                    simp at this
                    rw [this] at hjl
                    simp at hjl)
                  obtain ⟨y1, y2, _⟩ := hcells j (ext R[j]) (by rw [List.getElem?_map, List.getElem?_eq_getElem hjl]; rfl)
                  have hof := HOFF.out R[j] (List.getElem_mem hjl)
                  have hgr := S4.out.good.room R[j] (by simp)
                  have hlp := len_pos R[j]
                  replace y1 : wr.cell? ⟨bl, ol + j * 3, none⟩ = some (.int .i64 R[j].1) := by rw [hw]; exact y1
                  replace y2 : wr.cell? ⟨bl, ol + j * 3 + 1, none⟩ = some (.int .i64 (len R[j])) := by rw [hw]; exact y2
                  obtain ⟨x1, x2, _, _, _⟩ := X12.out
                  replace x1 : wr.cell? ⟨p12, 0, none⟩ = some (.int .i64 a) := by rw [hw]; exact x1
                  replace x2 : wr.cell? ⟨p12, 1, none⟩ = some (.int .i64 q) := by rw [hw]; exact x2
                  have hlq : len (a, bs) = q := HQ.out
                  unfold Off at hof
                  rw [hlq] at hof
                  dsimp only at hof
                  generalize len R[j] = lr at y2 hof hgr hlp
                  generalize R[j].1 = fr at y1 hof hgr
                  have hjl' : (j : Int) < R.length := by omega
                  have hR255 : R.length ≤ 255 := by omega
                  clear hw hcells hlq e2
                  rcases hof with hof | hof
                  · have t2 : decide ((a : Int) < fr + lr) = false := by simp; omega
                    clear hof
                    go_wp2_with fail
                    go_quiet (fail)
                    go_wp2_with fail
                    go_roundw
                    case rel => exact ⟨j + 1, d + nq, by omega, by go_num, by rw [HW.out, World.drewN_drewN]⟩
                    case measure => simp [intOf]; omega
                  · have t2 : (a : Int) < fr + lr := by omega
                    have t3 : decide ((fr : Int) < a + q) = false := by simp; omega
                    clear hof
                    go_wp2_with fail
                    go_quiet (fail)
                    go_wp2_with fail
                    go_roundw
                    case rel => exact ⟨j + 1, d + nq, by omega, by go_num, by rw [HW.out, World.drewN_drewN]⟩
                    case measure => simp [intOf]; omega
                · obtain rfl : j = R.length := by omega
                  have hbd : Below w4.heap.size w4 wr := by rw [hw]; exact below_drewN _ _ _
                  have S5 := S4.out.fresh hbd
                  have x12 := X12.out.fresh hbd
                  have X12 := Lib.hid x12
                  have BE5 : Below w.heap.size w wr := BE4.out.trans (hbd.mono BE4.out.size)
                  have HOW5 := Lib.hid (HOW4.out.fresh hbd)
                  have HBW5 : Hid (B ≤ wr.heap.size) := Nat.le_trans HBW4.out hbd.size
                  have hg : Calls Tryd.prog 13 #[.pointer (some ⟨s.sp, 0, none⟩), .agg #[.int .i64 a, .int .i64 (secs bs.length), .int .i64 bs.length]] wr (GetPost s n (2 * R.length + 1) (R ++ [(a, bs)]) bs wr) := get_yes s n _ _ (a, bs) wr S5 (by simp) (by omega)
                  rw [HQ.out] at hg
                  have HG := Lib.hid hg
                  have HBE5 := Lib.hid BE5
                  have HSP : Hid (s.sp < p12) := HP12.out.1
                  obtain ⟨x1, x2, x3, _, _⟩ := x12
                  clear hw hbd S5 BE5 hg
                  go_wp2_with fail
                  refine HG.out.mono ?_
                  rintro e w6 ⟨v6, rfl, hv6, s6, o6⟩
                  have BE6 : Hid (Below w.heap.size w w6) := HBE5.out.trans (o6.below HF.out HBE5.out.size)
                  have S6 := Lib.hid s6
                  have x12 := X12.out.only o6 (fun h => by have := h.2; have := HSP.out; omega)
                  have HOW6 := Lib.hid (HOW5.out.only o6 HFB.out)
                  have HBW6 : Hid (B ≤ w6.heap.size) := Nat.le_trans HBW5.out o6.size
                  obtain ⟨hb6, hc6⟩ := HBS4.out w6 BE6.out
                  have HSM := Lib.hid (same_eq v6 _ bs w6 hv6 hb6)
                  obtain ⟨a6, c6, rfl, _⟩ := hv6.form
                  obtain ⟨z1, z2, z3, _, _⟩ := x12
                  have hlt' : (k : Int) < len0 := by omega
                  clear s6 o6 hv6 hb6 x1 x2 x3 HG
                  go_wp2_with fail
                  refine HSM.out.mono ?_
                  rintro e w7 ⟨rfl, rfl⟩
                  go_wp2_with (at_builtin; refine wpList_append_own _ rfl _ _ 30 rfl B 32 i0 (.agg #[.int .i64 0, .int .i64 0, .int .i64 0]) 3 24 Tryd.underlying30 hi hz0 hz1 hz2 rfl (by decide) _ R.length (flatX (R.map ext)) rfl ?c0 ⟨w6.heap.size, 0, none⟩ 1 1 [.int .i64 a, .int .i64 q, .int .i64 bs.length] rfl rfl ?c1 ?c2 ?c3 ?c4 ?c5 ?_)
                  case c0 => have := HOW6.out.fresh ((Below.refl _ _).alloc (Nat.le_refl _) (.cells #[.int .i64 a, .int .i64 q, .int .i64 bs.length] 32)); unfold OwnX at this; rwa [List.length_map] at this
                  case c1 =>
                    have hbx := box3_new w6 a q bs.length 32
                    intro j u hj
                    match j, hj with
                    | 0, hj => simp at hj; subst hj; exact hbx.1
                    | 1, hj => simp at hj; subst hj; exact hbx.2.1
                    | 2, hj => simp at hj; subst hj; exact hbx.2.2.1
                  case c2 => intro u hu; simp at hu; rcases hu with rfl | rfl | rfl <;> rfl
                  case c3 => unfold maxLen; omega
                  case c4 => omega
                  case c5 => have := HBW6.out; simp; omega
                  intro v7 w7 hown7 hgrow7 _
                  have o7 : Only (B ≤ ·) w6 w7 := ((Only.refl (B ≤ ·) w6).alloc _).grown hgrow7 (fun g hg => .inl (by
                    have h := HOW6.out
                    unfold OwnX at h
                    exact (h.lt g hg).1))
                  have O7 := Lib.hid o7
                  have HO7 := Lib.hid hown7
                  clear hown7 hgrow7 o7
                  go_wp2_with fail
                  go_roundw
                  case rel =>
                    have hB0 := HB0.out
                    have hlq : len (a, bs) = q := HQ.out
                    refine ⟨k + 1, R ++ [(a, bs)], by omega, by go_num, ?_, ?_, ?_, ?_, Nat.le_trans HBW6.out O7.out.size, fun e => by simp at e⟩
                    · rw [total_add, HTT.out, hlq]; go_num
                    · exact (S6.out.only O7.out (fun j hj e => by have := hj.2; omega) (by omega)).mono (by simp; omega)
                    · unfold OwnX
                      rw [List.map_append, flatX_append, List.length_append, List.length_map]
                      have := HO7.out
                      have e : ext (a, bs) = ⟨a, q, bs.length⟩ := by simp [ext, hlq]
                      simp only [List.map_cons, List.map_nil, e]
                      exact this
                    · exact BE6.out.trans (O7.out.below (fun i hi e => by omega) BE6.out.size)
                  case measure => simp [intOf]; omega
          · have hex := eused_any s n _ R wr hs
            have HEX := Lib.hid hex
            have HBE := Lib.hid hb
            have HOW := Lib.hid hown
            have HNIL := Lib.hid hnil
            have HBW := Lib.hid hBw
            obtain ⟨av, cv, rfl⟩ := hown.form
            rw [List.length_map] at HOW HNIL ⊢
            obtain ⟨t, ht0⟩ : ∃ t, total R = t := ⟨_, rfl⟩
            have HTT := Lib.hid ht0
            rw [ht0] at ht hlt2 HEX ⊢
            clear hs hown hb hBw hnil hex ht0
            by_cases hR : R = []
            · subst hR
              have hn2 := HNIL.out rfl
              injection hn2 with e1 e2 e3
              subst e1 e3
              have hr : ∀ (w' : World) ty, (Builtin.append_ #[30, 30] ty #[.slice none 0 0, .slice none 0 0]).run Tryd.prog w' = .ok (.slice none 0 0) w' := fun w' ty => by
                simp [Builtin.append_, run_underlying Tryd.underlying30, sizeOf, typeInfo, hi, Builtin.lenOf, Builtin.firstCells]
              clear e2
              go_wp2_with fail
              refine HEX.out.mono ?_
              rintro e w2 ⟨rfl, s2, b2⟩
              have BE2 : Hid (Below w.heap.size w w2) := HBE.out.trans (b2.mono HBE.out.size)
              have HFA := Lib.hid (free_all (N := fun _ => False) s n _ [] (.slice none 0 0) [] w2 s2 ⟨none, 0, rfl, Nat.le_refl _, .inl rfl⟩ (fun _ h => h.elim) (fun x hx => (by cases hx)) (by simp) ⟨fun x hx => (by cases hx), List.nodup_nil⟩)
              clear s2 b2
              go_wp2_with fail
              refine HFA.out.mono ?_
              rintro e w3 ⟨rfl, s3, o3⟩
              have BE3 : Hid (Below w.heap.size w w3) := BE2.out.trans (o3.below HF.out BE2.out.size)
              have HE3 := Lib.hid (eused_any s n _ _ w3 s3)
              clear s3 o3
              go_wp2_with fail
              refine HE3.out.mono ?_
              rintro e w4 ⟨rfl, s4, b4⟩
              rw [show total (remOf [] []) = 0 from rfl]
              have BE4 : Hid (Below w.heap.size w w4) := BE3.out.trans (b4.mono BE3.out.size)
              have HKN := Lib.hid (known_true w4 s4.tab (by have := s4.lt; omega))
              clear s4 b4
              go_wp2_with fail
              refine HKN.out.mono ?_
              rintro e w5 ⟨rfl, b5⟩
              have BE5 : Hid (Below w.heap.size w w5) := BE4.out.trans (b5.mono BE4.out.size)
              clear b5
              go_wp2_with fail
              go_ret
              exact ⟨rfl, BE5.out⟩
            · have hRl : 0 < R.length := List.length_pos_iff.2 hR
              obtain ⟨g, rfl⟩ : ∃ g, av = some ⟨g, 0, none⟩ := by
                rcases HOW.out.2 with ⟨h3, h4⟩ | ⟨g, cap, cur, h3, _⟩
                · rw [List.length_map] at h4; omega
                · injection h3 with h3
                  exact ⟨g, h3⟩
              have hR255 : R.length ≤ 255 := by omega
              go_wp2_with fail
              refine HEX.out.mono ?_
              rintro e w2 ⟨rfl, s2, b2⟩
              have S2 := Lib.hid s2
              have BE2 : Hid (Below w.heap.size w w2) := HBE.out.trans (b2.mono HBE.out.size)
              have HOW2 : Hid (OwnX B w2 (.slice (some ⟨g, 0, none⟩) R.length cv) (R.map ext)) := HOW.out.fresh b2
              have HBW2 : Hid (B ≤ w2.heap.size) := Nat.le_trans HBW.out b2.size
              clear s2 b2
              go_wp2_with (at_builtin; refine wpList_append_own _ rfl _ _ 30 rfl w2.heap.size 32 i0 (.agg #[.int .i64 0, .int .i64 0, .int .i64 0]) 3 24 Tryd.underlying30 hi hz0 hz1 hz2 rfl (by decide) _ 0 [] rfl (World.ownsRow_nil _ _ _ _) ⟨g, 0, none⟩ R.length cv (flatX (R.map ext)) rfl ?c0 ?c1 ?c2 ?c3 ?c4 ?c5 ?_)
              case c0 => rw [flatX_len, List.length_map]
              case c1 => intro j u hj; exact World.ownsRow.cells HOW2.out (g := g) rfl j u hj
              case c2 => exact flatX_one _
              case c3 => unfold maxLen; omega
              case c4 => omega
              case c5 => exact Nat.le_refl _
              intro v3 w3 hown3 hg3 _
              have o3 : Only (w2.heap.size ≤ ·) w2 w3 := (Only.refl (w2.heap.size ≤ ·) w2).grown hg3 (fun k hk => by simp [Value.ownBlock] at hk)
              have HO3 := Lib.hid o3
              obtain ⟨B2, hB2⟩ : ∃ B2, w2.heap.size = B2 := ⟨_, rfl⟩
              have HB2 := Lib.hid hB2
              rw [hB2] at hown3 HO3
              have HN3 := Lib.hid hown3
              have HOW3 : Hid (OwnX B w3 (.slice (some ⟨g, 0, none⟩) R.length cv) (R.map ext)) := by
                have h := HOW2.out
                have hgl := h.lt g rfl
                exact ⟨h.1, h.2.imp id fun ⟨g', cap, cur, h1, h2, h3, h4⟩ => ⟨g', cap, cur, h1, h2, (o3.block g' (Array.getElem?_eq_some_iff.1 h3).1 (by have := (Array.getElem?_eq_some_iff.1 h3).1; omega)).trans h3, h4⟩⟩
              obtain ⟨a3, c3, rfl⟩ : ∃ a c, v3 = .slice a R.length c := by
                rcases hown3.2 with ⟨h5, h4⟩ | ⟨g', cap, cur, h5, _⟩
                · exact ⟨none, 0, by rw [h5, h4]⟩
                · exact ⟨_, _, h5⟩
              clear hown3 hg3 o3 hB2
              go_wp2_with (at_builtin; refine wpList_append_own _ rfl _ _ 30 rfl B2 32 i0 (.agg #[.int .i64 0, .int .i64 0, .int .i64 0]) 3 24 Tryd.underlying30 hi hz0 hz1 hz2 rfl (by decide) _ R.length (flatX (R.map ext)) rfl HN3.out ⟨g, 0, none⟩ R.length cv (flatX (R.map ext)) rfl ?c0 ?c1 ?c2 ?c3 ?c4 ?c5 ?_)
              case c0 => rw [flatX_len, List.length_map]
              case c1 => intro j u hj; exact World.ownsRow.cells HOW3.out (g := g) rfl j u hj
              case c2 => exact flatX_one _
              case c3 => unfold maxLen; omega
              case c4 => omega
              case c5 => rw [← HB2.out]; exact HO3.out.size
              intro v4 w4 hown4 hg4 _
              have o4 : Only (B2 ≤ ·) w3 w4 := (Only.refl (B2 ≤ ·) w3).grown hg4 (fun k hk => .inl (HN3.out.lt k hk).1)
              have O4 : Hid (Only (B2 ≤ ·) w2 w4) := HO3.out.then_ o4 (fun _ _ h => h)
              have hB0 := HB0.out
              have hBW2 := HBW2.out
              have hB2 := HB2.out
              have S4 : Hid (SpaceAt w4 s n (2 * R.length) R) := S2.out.only O4.out (fun j hj e => by have := hj.2; omega) (by omega)
              have BE4 : Hid (Below w.heap.size w w4) := BE2.out.trans (O4.out.below (fun i hi e => by omega) BE2.out.size)
              have HOW4 : Hid (OwnX B w4 (.slice (some ⟨g, 0, none⟩) R.length cv) (R.map ext)) := by
                have h := HOW2.out
                exact ⟨h.1, h.2.imp id fun ⟨g', cap, cur, h1, h2, h3, h4⟩ => ⟨g', cap, cur, h1, h2, (O4.out.block g' (Array.getElem?_eq_some_iff.1 h3).1 (by have := (Array.getElem?_eq_some_iff.1 h3).1; omega)).trans h3, h4⟩⟩
              have hown4' : OwnX B2 w4 v4 (R.map ext ++ R.map ext) := by
                unfold OwnX
                rw [flatX_append, List.length_append, List.length_map]
                exact hown4
              have hwfx : ∀ x ∈ R.map ext, x.wf := fun x hx => by
                obtain ⟨r, hr, rfl⟩ := List.mem_map.1 hx
                exact ext_wf S4.out.good (by omega) hr
              have HFB2 := Lib.hid (free_bad s n _ R v4 _ w4 S4.out hown4'.exts (fun x hx => hwfx x ((List.mem_append.1 hx).elim id id)) (by simp; omega) (bad_twice (by simpa using hR)))
              have HWFX := Lib.hid hwfx
              obtain ⟨a4, c4, rfl⟩ := hown4'.form
              rw [List.length_append, List.length_map] at HFB2 ⊢
              have hp1 : (0 : Int) < R.length := by omega
              have hp2 : decide (0 < R.length) = true := by simpa using hRl
              clear hown4 hown4' hg4 o4 hB0 hBW2 hB2 hwfx HO3 HN3 HOW3 HEX
              go_wp2_with fail
              refine HFB2.out.mono ?_
              rintro e w5 ⟨rfl, s5, o5⟩
              have BE5 : Hid (Below w.heap.size w w5) := BE4.out.trans (o5.below HF.out BE4.out.size)
              have HOW5 := Lib.hid (HOW4.out.only o5 HFB.out)
              have hfa := free_all s n _ R _ _ w5 s5 HOW5.out.exts HFB.out HWFX.out (by simp; omega) (ok_all s5.good)
              rw [rem_all] at hfa
              have HFA := Lib.hid hfa
              clear s5 o5 hfa
              go_wp2_with fail
              refine HFA.out.mono ?_
              rintro e w6 ⟨rfl, s6, o6⟩
              have BE6 : Hid (Below w.heap.size w w6) := BE5.out.trans (o6.below HF.out BE5.out.size)
              have HOW6 := Lib.hid (HOW5.out.only o6 HFB.out)
              have HE6 := Lib.hid (eused_any s n _ _ w6 s6)
              clear s6 o6
              go_wp2_with fail
              refine HE6.out.mono ?_
              rintro e w7 ⟨rfl, s7, b7⟩
              rw [show total [] = 0 from rfl]
              have BE7 : Hid (Below w.heap.size w w7) := BE6.out.trans (b7.mono BE6.out.size)
              have HOW7 := HOW6.out.fresh b7
              obtain ⟨a', c', he, _, hcells⟩ := HOW7.exts
              injection he with e1 e2 e3
              obtain ⟨bl, ol, e4, _, hcells⟩ := hcells.resolve_left (by simpa using hR)
              rw [← e1] at e4
              injection e4 with e4
              injection e4 with e4 e5
              subst e4 e5
              obtain ⟨x1, x2, x3⟩ := hcells 0 (ext (R[0]'hRl)) (by rw [List.getElem?_map, List.getElem?_eq_getElem hRl]; rfl)
              have hwx := HWFX.out (ext (R[0]'hRl)) (List.mem_map.2 ⟨_, List.getElem_mem hRl, rfl⟩)
              have HFO := Lib.hid (free_one_no s n _ [] (ext (R[0]'hRl)) w7 s7 hwx rfl)
              generalize ext (R[0]'hRl) = x at x1 x2 x3 HFO
              obtain ⟨fx, nx, sx⟩ := x
              replace x1 : w7.cell? ⟨g, 0, none⟩ = some (.int .i64 fx) := x1
              replace x2 : w7.cell? ⟨g, 1, none⟩ = some (.int .i64 nx) := x2
              replace x3 : w7.cell? ⟨g, 2, none⟩ = some (.int .i64 sx) := x3
              have hp3 : ((R.length : Int) == 0) = false := by simp; omega
              clear e1 e2 e3 hcells s7 b7 HOW7 hwx
              go_wp2_with fail
              refine HFO.out.mono ?_
              rintro e w8 ⟨rfl, s8, o8⟩
              have BE8 : Hid (Below w.heap.size w w8) := BE7.out.trans (o8.below HF.out BE7.out.size)
              have HKN := Lib.hid (known_true w8 s8.tab (by have := s8.lt; omega))
              clear s8 o8
              go_wp2_with fail
              refine HKN.out.mono ?_
              rintro e w9 ⟨rfl, b9⟩
              have BE9 : Hid (Below w.heap.size w w9) := BE8.out.trans (b9.mono BE8.out.size)
              clear b9
              go_wp2_with fail
              go_ret
              exact ⟨rfl, BE9.out⟩
end Go.Proofs.YtkjpemgoiobeeaaDoor.extentBack
