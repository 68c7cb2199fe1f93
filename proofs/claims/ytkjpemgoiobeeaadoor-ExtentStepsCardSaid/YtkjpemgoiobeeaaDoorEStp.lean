/- The walk of the law ExtentSteps. No condition but that math/bits' table lies in memory as its text lays it. -/
import Derived.Test.YtkjpemgoiobeeaaDoorEStD
import Derived.StillTailTactics
import Derived.Deep.RegionHeld3
namespace Go.Proofs.YtkjpemgoiobeeaaDoor.extentSteps
set_option maxRecDepth 1000000
open Go.ChangeShapes Go.WideShapes Go.ChangeAt Go.RowKit

set_option maxHeartbeats 8000000 in
theorem walk_main (w : World) (hT : Tab w) (h0 : 0 < w.heap.size) (n : Nat) (v : Value) (len0 : Nat) (hv : DosZ w v len0) (hn : n ≤ 300) :
    Calls Tryd.prog 3 #[.int .i64 n, v] w fun e w' => e = .returned (.bool true) ∧ Below w.heap.size w w' := by
  have HV := Lib.hid hv
  have HL := Lib.hid (long_any v len0 w hv)
  obtain ⟨i0, hi, hz0, hz1, hz2⟩ := info_parts Tryd.info32
  obtain ⟨a0, c0, rfl, hlen, _⟩ := hv
  have HK := Lib.hid (known_true w hT h0)
  have HN := Lib.hid (enew_yes n w (by omega) hT h0)
  have t1 : decide ((300 : Int) < n) = false := by simp; omega
  have t3 : decide ((n : Int) < 0) = false := by simp
  have t4 : decide ((20000 : Int) < n) = false := by simp; omega
  clear hT
  go_enter Tryd.func3, Tryd.ntmps3
  go_wp2_with fail
  refine HL.out.mono ?_
  rintro e w1 ⟨⟨b, rfl⟩, rfl⟩
  cases b
  case true =>
    go_wp2_with fail
    refine HK.out.mono ?_
    rintro e w1 ⟨rfl, hb⟩
    go_wp2_with fail
    go_ret
    exact ⟨rfl, hb⟩
  case false =>
    go_wp2_with fail
    refine HN.out.mono ?_
    rintro e w1 ⟨s, rfl, s1, hlo, b1⟩
    have S1 := Lib.hid s1
    have B1 := Lib.hid b1
    have HF : Hid (∀ i, i < w.heap.size → ¬ s.F i) := fun i hi hf => by have := hf.1; omega
    obtain ⟨B, hB⟩ : ∃ B, w1.heap.size = B := ⟨_, rfl⟩
    have HB := Lib.hid hB
    have HB0 : Hid (w.heap.size ≤ B ∧ s.sp < B ∧ 0 < B) := ⟨by rw [← hB]; exact b1.size, by rw [← hB]; exact s1.lt, by have := b1.size; omega⟩
    have HFB : Hid (∀ b, B ≤ b → ¬ s.F b) := fun b hb hf => by have := hf.2; have := s1.lt; omega
    clear s1 b1 hlo HN hB HK HL
    go_wp2_with fail
    clear t1 t3 t4
    go_loopw [7, 8, 9] (fun rows told i wr => ∃ (k : Nat) (L : List RV) (X : List Ext), k ≤ len0 ∧ i = .int .i64 k ∧ StI s n B k L X w wr rows told) (fun _ _ i _ => len0 - (intOf i).toNat)
    case atStart => exact ⟨0, [], [], Nat.zero_le _, rfl, S1.out, ⟨none, 0, rfl, Nat.le_refl _, fun p hp => (by cases hp), .inl rfl⟩, World.ownsRow_nil _ _ _ _, fun x hx => (by cases hx), Nat.le_refl _, B1.out, by rw [HB.out]; exact Nat.le_refl _⟩
    case round =>
      rename_i KL aL
      obtain ⟨k, L, X, hk, rfl, hs, hrows, htold, hwf, hXl, hb, hBw⟩ := hrel
      have hg := hs.good
      have hfew := rows_few hg (by omega)
      by_cases hlt : k < len0
      · obtain ⟨b, off, c, he, hbw, q, fA, ba, bc, bs, wq, wfA, hby, hbl, hat⟩ := HV.out.at_ hlt
        injection he with e1 e2 e3
        subst e1 e3
        have HAT := Lib.hid hat
        have HS := Lib.hid hs
        have HR := Lib.hid hrows
        have HTO := Lib.hid htold
        have HWF := Lib.hid hwf
        have HBE := Lib.hid hb
        have HBW := Lib.hid hBw
        have HGD := Lib.hid hg
        have hlt' : (k : Int) < len0 := by omega
        have hX9 : X.length ≤ 9000000000000 := by omega
        have hba : Below wr.heap.size wr (wr.alloc (.cells #[.int .i64 (-1), .int .i64 0, .int .i64 0] 32)) := (Below.refl _ _).alloc (Nat.le_refl _) _
        have HB0' := Lib.hid (hb.trans (hba.mono hb.size))
        obtain ⟨_, d1, d2, d3⟩ := hat _ HB0'.out
        have X10 := Lib.hid (box3_new wr (-1) 0 0 32)
        have HBA := Lib.hid hba
        obtain ⟨a1, c1, rfl⟩ := hrows.form
        obtain ⟨a2, c2, rfl⟩ := htold.form
        obtain ⟨q1, q2⟩ := wf_i64 wq
        obtain ⟨f1, f2⟩ := wf_i64 wfA
        clear hs hrows htold hwf hb hBw hg hat hba wq wfA
        go_upto_region 14 with fail
        obtain ⟨p10, hp10⟩ : ∃ p, wr.heap.size = p := ⟨_, rfl⟩
        rw [hp10] at X10 ⊢
        have HP10 := Lib.hid hp10
        clear hp10
        generalize wr.alloc (.cells #[.int .i64 (-1), .int .i64 0, .int .i64 0] 32) = W0 at X10 HB0' HBA d1 d2 d3 ⊢
        go_cut [81] from 59 to 207 (fun s81 wx => s81 = .bool (decide (0 ≤ fA ∧ fA < X.length)) ∧ wx = W0)
        case first =>
          by_cases g1 : 0 ≤ fA
          · by_cases g2 : fA < X.length
            · have e1 : decide (0 ≤ fA ∧ fA < X.length) = true := by simp; exact ⟨g1, g2⟩
              go_wp2_with fail
              go_meet
              case rel => exact ⟨by rw [e1], rfl⟩
            · have e1 : decide (0 ≤ fA ∧ fA < X.length) = false := by simp; omega
              have g2' : decide (fA < X.length) = false := by simpa using g2
              go_wp2_with fail
              go_meet
              case rel => exact ⟨by rw [e1], rfl⟩
          · have e1 : decide (0 ≤ fA ∧ fA < X.length) = false := by simp; omega
            have g1' : decide (0 ≤ fA) = false := by simpa using g1
            go_wp2_with fail
            go_meet
            case rel => exact ⟨by rw [e1], rfl⟩
        case rest =>
          obtain ⟨rfl, rfl⟩ := hcut
          obtain ⟨⟨xf, xn, xz⟩, hpx⟩ : ∃ x, pickX X fA = x := ⟨_, rfl⟩
          have HPX := Lib.hid hpx
          have hxwf := pickX_wf HWF.out fA
          rw [hpx] at hxwf
          have HXWF := Lib.hid hxwf
          obtain ⟨inn, hinn⟩ : ∃ inn, decide (0 ≤ fA ∧ fA < X.length) = inn := ⟨_, rfl⟩
          have HINN := Lib.hid hinn
          rw [hinn]
          clear hpx hxwf hinn
          go_upto_if 81 with fail
          go_cut [10] from 59 to 207 (fun s10 wx => s10 = .pointer (some ⟨p10, 0, none⟩) ∧ Box3 wx p10 xf xn xz ∧ Only (· = p10) wc wx)
          case first =>
            cases inn
            · have e := HINN.out
              have e2 : pickX X fA = ⟨-1, 0, 0⟩ := by
                simp at e
                by_cases g : fA < 0
                · exact pickX_low g
                · exact pickX_high (by have := e (by omega); omega)
              have e3 := HPX.out
              rw [e2] at e3
              injection e3 with e4 e5 e6
              subst e4 e5 e6
              go_wp2_with fail
              go_meet
              case rel => exact ⟨rfl, X10.out, Only.refl _ _⟩
            · have e := HINN.out
              simp at e
              obtain ⟨kA, rfl⟩ := Int.eq_ofNat_of_zero_le e.1
              have hkA : kA < X.length := by omega
              have e3 := HPX.out
              rw [pickX_in hkA] at e3
              obtain ⟨a', c', he, _, hcells⟩ := (HTO.out.fresh HBA.out).exts
              injection he with e4 e5 e6
              obtain ⟨bl, ol, e7, _, hcells⟩ := hcells.resolve_left (fun e => by rw [e] at hkA; simp at hkA)
              rw [← e4] at e7
              subst e7
              obtain ⟨y1, y2, y3⟩ := hcells kA ⟨xf, xn, xz⟩ (by rw [List.getElem?_eq_getElem hkA, e3])
              dsimp only at y1 y2 y3
              obtain ⟨v1, v2, v3, vf, _⟩ := X10.out
              have vf0 := vf 0
              have vf1 := vf 1
              have vf2 := vf 2
              have hkA' : (kA : Int) < X.length := by omega
              clear e e3 e4 e5 e6 hcells vf
              go_wp2_with fail
              go_meet
              case rel => exact ⟨rfl, X10.out.put xf xn xz, put3_only (Only.refl _ _) (.inl rfl)⟩
          case rest =>
            obtain ⟨rfl, x10, o10⟩ := hcut
            have hp10 := HP10.out
            have hspl := HS.out.lt
            have hB0 := HB0.out
            have hwsz := HBE.out.size
            have hbw0 := HBW.out
            have BEc : Below w.heap.size w wc := HB0'.out.trans (o10.below (fun i hi e => by omega) HB0'.out.size)
            have Sc : SpaceAt wc s n k (rowsOf L) := (HS.out.fresh HBA.out).only o10 (fun j hj e => by have := hj.2; omega) (by omega)
            have Rc : RowsV (fun b => NR s (.slice a2 X.length c2) b ∧ b < p10) wc (.slice a1 L.length c1) L := ((HR.out.kind (M := fun b => NR s (.slice a2 X.length c2) b ∧ b < p10) (fun b hb hN => ⟨hN, by omega⟩)).fresh HBA.out).only o10 (fun b hb e => by have := hb.2; omega)
            have Tc : OwnX B wc (.slice a2 X.length c2) X := ownX_kept (HTO.out.fresh HBA.out) o10 (fun b e => by
              have h := HTO.out
              unfold OwnX at h
              have := (h.lt b e).2
              omega)
            have Bc : B ≤ wc.heap.size := by have := HBA.out.size; have := o10.size; omega
            have hba2 : Below wc.heap.size wc ((wc.alloc (.cells #[.int .i64 0, .int .i64 0, .int .i64 0] 32)).alloc (.cells #[.int .i64 0, .int .i64 0, .int .i64 0] 32)) := ((Below.refl _ _).alloc (Nat.le_refl _) _).alloc (by simp) _
            have x12 := (box3_new wc 0 0 0 32).fresh ((Below.refl _ _).alloc (Nat.le_refl _) (.cells #[.int .i64 0, .int .i64 0, .int .i64 0] 32))
            have x13 := box3_new (wc.alloc (.cells #[.int .i64 0, .int .i64 0, .int .i64 0] 32)) 0 0 0 32
            rw [World.size_alloc] at x13
            have hp10c := x10.2.2.2.2
            obtain ⟨_, g1, g2, g3⟩ := HAT.out _ (BEc.trans (hba2.mono BEc.size))
            have S3 := Lib.hid (Sc.fresh hba2)
            have R3 := Lib.hid (Rc.fresh hba2)
            have T3 := Lib.hid (Tc.fresh hba2)
            have X103 := Lib.hid (x10.fresh hba2)
            have BE3 := Lib.hid (BEc.trans (hba2.mono BEc.size))
            have HBW3 : Hid (B ≤ ((wc.alloc (.cells #[.int .i64 0, .int .i64 0, .int .i64 0] 32)).alloc (.cells #[.int .i64 0, .int .i64 0, .int .i64 0] 32)).heap.size) := Nat.le_trans Bc hba2.size
            obtain ⟨p12, hp12⟩ : ∃ p, wc.heap.size = p := ⟨_, rfl⟩
            obtain ⟨p13, hp13⟩ : ∃ p, p12 + 1 = p := ⟨_, rfl⟩
            rw [hp12] at x12 x13
            rw [hp13] at x13
            have X12 := Lib.hid x12
            have X13 := Lib.hid x13
            have HPP : Hid (s.sp < p10 ∧ p10 < p12 ∧ p13 = p12 + 1 ∧ B ≤ p10) := ⟨by omega, by omega, by omega, by omega⟩
            have HTB : Hid (∀ b, (Value.slice a2 X.length c2).ownBlock = some b → B ≤ b ∧ b < p10) := fun b e => by
              have h := HTO.out
              unfold OwnX at h
              have := h.lt b e
              exact ⟨this.1, by omega⟩
            clear hp10 hspl hB0 hwsz hbw0 BEc Sc Rc Tc Bc hba2 x12 x13 hp10c x10 o10
            go_upto_block 2 with fail
            rename_i KB aB
            (try rw [hp13])
            clear hp12 hp13
            generalize (wc.alloc (.cells #[.int .i64 0, .int .i64 0, .int .i64 0] 32)).alloc (.cells #[.int .i64 0, .int .i64 0, .int .i64 0] 32) = w3 at S3 R3 T3 X103 BE3 HBW3 X12 X13 g1 g2 g3 ⊢
            go_cut [11, 14, 15] from 59 to 207 (fun s11 s14 s15 wx => SwRel s n B k X p12 p13 w (.slice a2 X.length c2) s11 s14 s15 wx)
            case first =>
              clear aL aB
              by_cases k1 : q = 1
              · subst k1
                obtain ⟨fa, ok, hF⟩ := first_ex (tk (rowsOf L)) n (secs bs.length)
                have HFI := Lib.hid hF
                obtain ⟨hvb, _, _, _⟩ := HAT.out w3 BE3.out
                obtain ⟨y1, y2, y3, yf, _⟩ := X12.out
                have yf0 := yf 0
                have yf1 := yf 1
                have yf2 := yf 2
                have HN2 : Hid (∀ w' : World, Below w.heap.size w w' → Bts (fun b => NR s (.slice a2 X.length c2) b ∧ b < p10) w' (.slice ba bs.length bc) bs) := fun w' hb' => (HAT.out w' hb').1.kind (fun b _ hb => by
                  have h1 := HPP.out
                  have h2 := HB0.out
                  have h3 := HP10.out
                  have h4 := HBE.out.size
                  exact ⟨⟨HF.out b hb, fun e => by have := HTB.out b e; omega⟩, by omega⟩)
                cases ok
                · as_aux_lemma =>
                    have HPT := Lib.hid (put_no s n k _ fa _ bs w3 S3.out hvb (by omega) hF)
                    clear hF hvb yf
                    go_wp2_with fail
                    refine HPT.out.mono ?_
                    rintro e w4 ⟨rfl, s4, o4⟩
                    obtain ⟨r4, t4, x12, x13, be4, hb4⟩ := sw_mid HPP.out HTB.out HB0.out.1 HF.out HFB.out R3.out T3.out X12.out X13.out BE3.out HBW3.out o4
                    have S4 := Lib.hid s4
                    have R4 := Lib.hid r4
                    have T4 := Lib.hid t4
                    have XX12 := Lib.hid x12
                    have XX13 := Lib.hid x13
                    have BE4 := Lib.hid be4
                    have HBW4 := Lib.hid hb4
                    obtain ⟨n1, n2, n3, nf, _⟩ := x12
                    have nf0 := nf 0
                    have nf1 := nf 1
                    have nf2 := nf 2
                    obtain ⟨_, _, _, l3⟩ := HAT.out w4 be4
                    have hne : ¬ b = p12 := by have := HB0.out; have := HPP.out; omega
                    clear s4 o4 r4 t4 x13 be4 hb4 nf y1 y2 y3 yf0 yf1 yf2 g1 g2 g3 HPT
                    go_wp2_with fail
                    have y12 := XX12.out.put 0 0 0
                    obtain ⟨s5, r5, t5, y13, be5, hb5⟩ := sw_set HPP.out HTB.out HB0.out.1 S4.out R4.out T4.out XX12.out XX13.out BE4.out HBW4.out (put3_only (p := p12) (a' := 0) (b' := 0) (c' := 0) (Only.refl _ w4) (.inl rfl))
                    have HRP := Lib.hid (refput_no _ L n fa _ bs _ r5 (HN2.out _ be5) hfew (by omega) (by omega) (rows_room HGD.out (by omega)) HFI.out)
                    generalize ((w4.setCell ⟨p12, 0, none⟩ (.int .i64 0)).setCell ⟨p12, 1, none⟩ (.int .i64 0)).setCell ⟨p12, 2, none⟩ (.int .i64 0) = w5 at s5 r5 t5 y12 y13 be5 hb5 HRP ⊢
                    have S5 := Lib.hid s5
                    have R5 := Lib.hid r5
                    have T5 := Lib.hid t5
                    have Y12 := Lib.hid y12
                    have Y13 := Lib.hid y13
                    have BE5 := Lib.hid be5
                    have HBW5 := Lib.hid hb5
                    clear s5 r5 t5 y12 be5 hb5 n1 n2 n3 nf0 nf1 nf2 l3
                    refine HRP.out.mono ?_
                    rintro e w6 ⟨rfl, b6⟩
                    have B6 := Lib.hid b6
                    obtain ⟨m1, m2, m3, mf, _⟩ := y13.fresh b6
                    have mf0 := mf 0
                    have mf1 := mf 1
                    have mf2 := mf 2
                    clear b6 y13 mf HRP
                    go_wp2_with fail
                    go_meet
                    case rel =>
                      exact sw_end HPP.out HTB.out HB0.out.1 (L' := L) (S5.out.mono (Nat.le_succ k)) T5.out Y12.out Y13.out BE5.out HBW5.out B6.out ((R5.out.fresh B6.out).kind (fun b _ h => .inl h)) (fun h => absurd h (by decide))
                · as_aux_lemma =>
                    have hroom : fa + secs bs.length ≤ n := by
                      rcases hF with ⟨_, h, _⟩ | ⟨h, _⟩
                      · exact h
                      · cases h
                    have hse := secs_le bs.length
                    have hbl6 : bs.length ≤ 1000000 := by omega
                    obtain ⟨qq, hqq⟩ : ∃ q, secs bs.length = q := ⟨_, rfl⟩
                    have HQQ := Lib.hid hqq
                    have HPT := Lib.hid (put_yes s n k _ fa _ bs w3 S3.out (HN2.out w3 BE3.out) (fun b hb => hb.1.1) hby (by omega) (by omega) hF)
                    clear hF hvb yf hroom hse hqq
                    go_wp2_with fail
                    refine HPT.out.mono ?_
                    rintro e w4 ⟨rfl, s4, o4⟩
                    obtain ⟨r4, t4, x12, x13, be4, hb4⟩ := sw_mid HPP.out HTB.out HB0.out.1 HF.out HFB.out R3.out T3.out X12.out X13.out BE3.out HBW3.out o4
                    have S4 := Lib.hid s4
                    have R4 := Lib.hid r4
                    have T4 := Lib.hid t4
                    have XX12 := Lib.hid x12
                    have XX13 := Lib.hid x13
                    have BE4 := Lib.hid be4
                    have HBW4 := Lib.hid hb4
                    obtain ⟨n1, n2, n3, nf, _⟩ := x12
                    have nf0 := nf 0
                    have nf1 := nf 1
                    have nf2 := nf 2
                    obtain ⟨_, _, _, l3⟩ := HAT.out w4 be4
                    have hne : ¬ b = p12 := by have := HB0.out; have := HPP.out; omega
                    rw [HQQ.out]
                    clear s4 o4 r4 t4 x13 be4 hb4 nf y1 y2 y3 yf0 yf1 yf2 g1 g2 g3 HPT
                    go_wp2_with fail
                    have y12 := XX12.out.put (fa : Int) (qq : Int) (bs.length : Int)
                    obtain ⟨s5, r5, t5, y13, be5, hb5⟩ := sw_set HPP.out HTB.out HB0.out.1 S4.out R4.out T4.out XX12.out XX13.out BE4.out HBW4.out (put3_only (p := p12) (a' := (fa : Int)) (b' := (qq : Int)) (c' := (bs.length : Int)) (Only.refl _ w4) (.inl rfl))
                    have HRP := Lib.hid (refput_yes _ L n fa _ bs _ r5 (HN2.out _ be5) hfew (by omega) hbl6 (rows_room HGD.out (by omega)) HFI.out)
                    generalize ((w4.setCell ⟨p12, 0, none⟩ (.int .i64 (fa : Int))).setCell ⟨p12, 1, none⟩ (.int .i64 (qq : Int))).setCell ⟨p12, 2, none⟩ (.int .i64 (bs.length : Int)) = w5 at s5 r5 t5 y12 y13 be5 hb5 HRP ⊢
                    have S5 := Lib.hid s5
                    have R5 := Lib.hid r5
                    have T5 := Lib.hid t5
                    have Y12 := Lib.hid y12
                    have Y13 := Lib.hid y13
                    have BE5 := Lib.hid be5
                    have HBW5 := Lib.hid hb5
                    clear s5 r5 t5 y12 be5 hb5 n1 n2 n3 nf0 nf1 nf2 l3
                    refine HRP.out.mono ?_
                    rintro e w6 ⟨v6, bv, rfl, r6, b6⟩
                    rw [HQQ.out]
                    have R6 := Lib.hid r6
                    have B6 := Lib.hid b6
                    obtain ⟨m1, m2, m3, mf, _⟩ := y13.fresh b6
                    have mf0 := mf 0
                    have mf1 := mf 1
                    have mf2 := mf 2
                    clear b6 y13 mf HRP r6
                    go_wp2_with fail
                    go_meet
                    case rel =>
                      have e : rowsOf (L ++ [((fa, bs), bv)]) = rowsOf L ++ [(fa, bs)] := by simp [rowsOf]
                      refine sw_end HPP.out HTB.out HB0.out.1 (L' := L ++ [((fa, bs), bv)]) (by rw [e]; exact S5.out) T5.out Y12.out Y13.out BE5.out HBW5.out B6.out R6.out (fun _ => ?_)
                      have h := ext_wf S5.out.good (by omega) (r := (fa, bs)) (by simp)
                      rw [← HQQ.out]
                      exact h
              · have e1 : (q == 1) = false := by simpa using k1
                by_cases k2 : q = 2
                · subst k2
                  obtain ⟨z1, z2, z3, _, _⟩ := X103.out
                  cases hX : isX (rowsOf L) ⟨xf, xn, xz⟩
                  · as_aux_lemma =>
                      have HX := Lib.hid hX
                      have HGT := Lib.hid (get_none s n k (rowsOf L) xf xn xz w3 S3.out HXWF.out hX)
                      clear hX g1 g2 g3
                      go_wp2_with fail
                      refine HGT.out.mono ?_
                      rintro e w4 ⟨rfl, s4, b4⟩
                      have S4 := Lib.hid s4
                      have R4 := Lib.hid (R3.out.fresh b4)
                      have T4 := Lib.hid (T3.out.fresh b4)
                      have XX12 := Lib.hid (X12.out.fresh b4)
                      have XX13 := Lib.hid (X13.out.fresh b4)
                      have BE4 := Lib.hid (BE3.out.trans (b4.mono BE3.out.size))
                      have HBW4 : Hid (B ≤ w4.heap.size) := Nat.le_trans HBW3.out b4.size
                      obtain ⟨n1, n2, n3, _, _⟩ := X103.out.fresh b4
                      have HFD := Lib.hid (find_any _ L xf xn xz w4 R4.out hfew)
                      clear s4 b4 HGT z1 z2 z3
                      go_wp2_with fail
                      refine HFD.out.mono ?_
                      rintro e w5 ⟨kk, rfl, hk5, b5⟩
                      have ek : kk = -1 := by
                        rcases hk5 with ⟨h, _⟩ | ⟨i, _, hi, hx⟩
                        · exact h
                        · have h1 := HX.out
                          rw [isX_of hi hx] at h1
                          cases h1
                      subst ek
                      have B5 := Lib.hid b5
                      clear b5 hk5 HFD n1 n2 n3
                      go_wp2_with fail
                      go_meet
                      case rel =>
                        exact sw_zero HPP.out HTB.out HB0.out.1 (L' := L) (S4.out.mono (Nat.le_succ k)) T4.out XX12.out XX13.out BE4.out HBW4.out B5.out ((R4.out.fresh B5.out).kind (fun b _ h => .inl h))
                  · as_aux_lemma =>
                      obtain ⟨r, hr, he⟩ := live_row hX
                      have hget := get_yes s n k (rowsOf L) r w3 S3.out hr (by omega)
                      have HRW : Hid (∀ i (h : i < (rowsOf L).length), ext (rowsOf L)[i] = ⟨xf, xn, xz⟩ → (rowsOf L)[i].2 = r.2) := fun i h hx => by
                        rw [same_row HGD.out.apart h hr (hx.trans he)]
                      injection he with h1 h2 h3
                      rw [← h1, ← h2, ← h3] at hget
                      have HX := Lib.hid hX
                      have HGT := Lib.hid hget
                      clear hget hX h1 h2 h3 hr
                      generalize r.2 = ys at HGT HRW
                      clear g1 g2 g3
                      go_wp2_with fail
                      refine HGT.out.mono ?_
                      rintro e w4 ⟨v4, rfl, hv4, s4, o4⟩
                      obtain ⟨r4, t4, x12, x13, be4, hb4⟩ := sw_mid HPP.out HTB.out HB0.out.1 HF.out HFB.out R3.out T3.out X12.out X13.out BE3.out HBW3.out o4
                      have S4 := Lib.hid s4
                      have R4 := Lib.hid r4
                      have T4 := Lib.hid t4
                      have XX12 := Lib.hid x12
                      have XX13 := Lib.hid x13
                      have BE4 := Lib.hid be4
                      have HBW4 := Lib.hid hb4
                      have V4 := Lib.hid hv4
                      obtain ⟨a4, c4, rfl, _⟩ := hv4.form
                      obtain ⟨n1, n2, n3, _, _⟩ := X103.out.only o4 (HFB.out _ HPP.out.2.2.2)
                      have HFD := Lib.hid (find_any _ L xf xn xz w4 R4.out hfew)
                      clear s4 o4 r4 t4 x12 x13 be4 hb4 hv4 HGT z1 z2 z3
                      go_wp2_with fail
                      refine HFD.out.mono ?_
                      rintro e w5 ⟨kk, rfl, hk5, b5⟩
                      obtain ⟨i, rfl, hi, hx⟩ := hk5.resolve_left (fun h => by have h1 := HX.out; rw [h.2] at h1; cases h1)
                      have hiL : i < L.length := by simpa [rowsOf] using hi
                      have hys := HRW.out i hi hx
                      obtain ⟨bR, oR, cR, heR, _, _, _, _, h4, h5⟩ := (R4.out.fresh b5).at_ i hiL
                      injection heR with e1 e2 e3
                      subst e1 e3
                      obtain ⟨⟨⟨fR, xR⟩, bv⟩, hp⟩ : ∃ p, L[i] = p := ⟨_, rfl⟩
                      have hys2 : xR = ys := by rw [← hys]; simp [rowsOf, hp]
                      rw [hp] at h4 h5
                      dsimp only at h4 h5
                      rw [hys2] at h5
                      obtain ⟨ba', bc', rfl, _⟩ := h5.form
                      have HSM := Lib.hid (same_eq (.slice a4 ys.length c4) _ ys w5 (Bts.only V4.out (Only.of_below (F := fun _ => False) b5) (fun _ _ h => h)) h5)
                      have hi1 : (i : Int) < L.length := by omega
                      have hi2 : decide ((i : Int) < 0) = false := by simp
                      have B5 := Lib.hid b5
                      clear b5 HFD n1 n2 n3 h5 hys hys2 hp hx e2
                      go_wp2_with fail
                      refine HSM.out.mono ?_
                      rintro e w6 ⟨rfl, rfl⟩
                      go_wp2_with fail
                      go_meet
                      case rel =>
                        exact sw_zero HPP.out HTB.out HB0.out.1 (L' := L) S4.out T4.out XX12.out XX13.out BE4.out HBW4.out B5.out ((R4.out.fresh B5.out).kind (fun b _ h => .inl h))
                · have e2 : (q == 2) = false := by simpa using k2
                  by_cases k3 : q = 3
                  · subst k3
                    obtain ⟨z1, z2, z3, _, _⟩ := X103.out
                    have HN2 : Hid (∀ w' : World, Below w.heap.size w w' → Bts (fun b => NR s (.slice a2 X.length c2) b ∧ b < p10) w' (.slice ba bs.length bc) bs) := fun w' hb' => (HAT.out w' hb').1.kind (fun b _ hb => by
                      have h1 := HPP.out
                      have h2 := HB0.out
                      have h3 := HP10.out
                      have h4 := HBE.out.size
                      exact ⟨⟨HF.out b hb, fun e => by have := HTB.out b e; omega⟩, by omega⟩)
                    have bd3 : Below w3.heap.size w3 w3.drew := below_drewN w3 w3.heap.size 1
                    have R3d := Lib.hid (R3.out.fresh bd3)
                    have T3d := Lib.hid (T3.out.fresh bd3)
                    have X12d := Lib.hid (X12.out.fresh bd3)
                    have X13d := Lib.hid (X13.out.fresh bd3)
                    have X103d := Lib.hid (X103.out.fresh bd3)
                    have BE3d := Lib.hid (BE3.out.trans (bd3.mono BE3.out.size))
                    have HBW3d : Hid (B ≤ w3.drew.heap.size) := Nat.le_trans HBW3.out bd3.size
                    obtain ⟨u, R, zf, zn, zz, t, hu, hzr, hst, hrs⟩ := set_both s n k L xf xn xz (.slice a1 L.length c1) (.slice ba bs.length bc) bs w3.drew (S3.out.fresh bd3) (HN2.out _ BE3d.out) (fun b hb => hb.1.1) hby (by omega) hbl hn HXWF.out
                    have HST := Lib.hid hst
                    have HRS := Lib.hid hrs
                    have HZR := Lib.hid hzr
                    have HU := Lib.hid hu
                    clear bd3 hst hrs hzr hu
                    go_upto_region 36 with fail
                    rename_i K36 a36
                    go_cut [14] from 59 to 207 (fun s14 wx => SetRel s n B u R L X p10 p12 p13 w (.slice a1 L.length c1) (.slice a2 X.length c2) xf xn xz zf zn zz t s14 wx)
                    case first =>
                      as_aux_lemma =>
                        clear a36 d2 d3 g1 g2 q1 q2 f1 f2 d1 e1 e2 k1 k2
                        have HK3 := Lib.hid (ld_at X103d.out (HAT.out _ BE3d.out).2.2.2)
                        go_region_held3 (fun w' => w'.cell? ⟨p10, 0, none⟩ = some (.int .i64 xf) ∧ w'.cell? ⟨p10, 1, none⟩ = some (.int .i64 xn) ∧ w'.cell? ⟨p10, 2, none⟩ = some (.int .i64 xz) ∧ w'.cell? ⟨b, off + k * 3 + 2, none⟩ = some (.slice ba bs.length bc)) (first | (exact HK3.out) | (exact HK4.out) | (exact HK5.out)) (first | (go_at_call 16; refine HST.out.mono ?_; rintro e w4 ⟨rfl, s4, o4⟩; have MID := Lib.hid (sw_mid HPP.out HTB.out HB0.out.1 HF.out HFB.out R3d.out T3d.out X12d.out X13d.out BE3d.out HBW3d.out o4); obtain ⟨n1, n2, n3, nf, _⟩ := MID.out.2.2.1; have nf0 := nf 0; have nf1 := nf 1; have nf2 := nf 2; have X104 := Lib.hid (X103d.out.only o4 (HFB.out _ HPP.out.2.2.2)); have HK4 := Lib.hid (ld_at X104.out (HAT.out _ MID.out.2.2.2.2.1).2.2.2); have SR5 := Lib.hid (set_rel (t := t) (zf := zf) (zn := zn) (zz := zz) HPP.out HTB.out HB0.out.1 s4 MID.out.1 MID.out.2.1 MID.out.2.2.1 MID.out.2.2.2.1 X104.out MID.out.2.2.2.2.1 MID.out.2.2.2.2.2); have HK5 := Lib.hid (ld_at SR5.out.2.2.2.2.2.2.1 (HAT.out _ SR5.out.2.2.2.2.2.2.2.1).2.2.2); clear s4 o4 nf))
                        go_wp2_with fail
                        go_meet
                        case rel => exact SR5.out
                    case rest =>
                      as_aux_lemma =>
                        obtain ⟨rfl, s5, r5, t5, y12, y13, y10, be5, hb5⟩ := hcut
                        have bd : Below wc.heap.size wc wc.drew := below_drewN wc wc.heap.size 1
                        have HRP := Lib.hid (HRS.out wc.drew (r5.fresh bd) (HN2.out _ (be5.trans (bd.mono be5.size))))
                        clear g1 g2 g3 z1 z2 z3
                        obtain ⟨_, g1, g2, g3⟩ := HAT.out wc be5
                        have y10' := y10
                        obtain ⟨z1, z2, z3, _, _⟩ := y10
                        have S5 := Lib.hid (s5.fresh bd)
                        have T5 := Lib.hid (t5.fresh bd)
                        have Y12 := Lib.hid (y12.fresh bd)
                        have Y10 := Lib.hid (y10'.fresh bd)
                        have HK5 := Lib.hid (ld_at Y10.out (HAT.out _ (be5.trans (bd.mono be5.size))).2.2.2)
                        have Y13 := Lib.hid (y13.fresh bd)
                        have BE5 := Lib.hid (be5.trans (bd.mono be5.size))
                        have HBW5 : Hid (B ≤ wc.drew.heap.size) := Nat.le_trans hb5 bd.size
                        clear s5 r5 t5 y12 y13 be5 hb5 bd y10'
                        go_upto_region 37 with fail
                        clear g1 g2 q1 q2 d1 e1 e2 k1 k2
                        go_region_held3 (fun w' => w'.cell? ⟨p10, 0, none⟩ = some (.int .i64 xf) ∧ w'.cell? ⟨p10, 1, none⟩ = some (.int .i64 xn) ∧ w'.cell? ⟨p10, 2, none⟩ = some (.int .i64 xz) ∧ w'.cell? ⟨b, off + k * 3 + 2, none⟩ = some (.slice ba bs.length bc)) (first | (exact HK5.out) | (exact HK6.out) | (exact HK7.out)) (first | (go_at_call 17; refine HRP.out.mono ?_; rintro e w6 ⟨v6, L6, rfl, r6, e6, b6⟩; have HK6 := Lib.hid (ld_at (Y10.out.fresh b6) (HAT.out _ (BE5.out.trans (b6.mono BE5.out.size))).2.2.2); have HK7 := Lib.hid (ld_put3 (p12 := p13) (a' := zf) (b' := zn) (c' := zz) HK6.out (by have := HPP.out; omega) (by have := HPP.out; have := HB0.out; omega)); have SE := Lib.hid (set_end (zf := zf) (zn := zn) (zz := zz) (t := t) HPP.out HTB.out HB0.out.1 S5.out HU.out HZR.out e6 T5.out Y12.out Y13.out BE5.out HBW5.out b6 r6 hn); obtain ⟨m1, m2, m3, mf, _⟩ := Y13.out.fresh b6; have mf0 := mf 0; have mf1 := mf 1; have mf2 := mf 2; clear r6 e6 b6 mf))
                        go_wp2_with fail
                        go_meet
                        case rel => exact SE.out
                  · have e3 : (q == 3) = false := by simpa using k3
                    cases hX : isX (rowsOf L) ⟨xf, xn, xz⟩
                    · as_aux_lemma =>
                        obtain ⟨z1, z2, z3, _, _⟩ := X103.out
                        have HX := Lib.hid hX
                        have HFR := Lib.hid (free_one_no s n k (rowsOf L) ⟨xf, xn, xz⟩ w3 S3.out HXWF.out hX)
                        clear hX g1 g2 g3
                        go_wp2_with fail
                        refine HFR.out.mono ?_
                        rintro e w4 ⟨rfl, s4, o4⟩
                        obtain ⟨r4, t4, x12, x13, be4, hb4⟩ := sw_mid HPP.out HTB.out HB0.out.1 HF.out HFB.out R3.out T3.out X12.out X13.out BE3.out HBW3.out o4
                        have S4 := Lib.hid s4
                        have R4 := Lib.hid r4
                        have T4 := Lib.hid t4
                        have XX12 := Lib.hid x12
                        have XX13 := Lib.hid x13
                        have BE4 := Lib.hid be4
                        have HBW4 := Lib.hid hb4
                        obtain ⟨n1, n2, n3, _, _⟩ := X103.out.only o4 (HFB.out _ HPP.out.2.2.2)
                        have hba : Below w4.heap.size w4 (w4.alloc (.cells #[.int .i64 xf, .int .i64 xn, .int .i64 xz] 32)) := (Below.refl _ _).alloc (Nat.le_refl _) _
                        have HBA4 := Lib.hid hba
                        have HRF := Lib.hid (reffree_no _ L w4.heap.size xf xn xz (w4.alloc (.cells #[.int .i64 xf, .int .i64 xn, .int .i64 xz] 32)) (r4.fresh hba) hfew (box3_new w4 xf xn xz 32) HX.out)
                        clear s4 o4 r4 t4 x12 x13 be4 hb4 hba HFR z1 z2 z3
                        go_wp2_with fail
                        refine HRF.out.mono ?_
                        rintro e w6 ⟨rfl, b6⟩
                        have B6 := Lib.hid b6
                        clear b6 n1 n2 n3
                        go_wp2_with fail
                        go_meet
                        case rel =>
                          exact sw_zero HPP.out HTB.out HB0.out.1 (L' := L) (S4.out.mono (Nat.le_succ k)) T4.out XX12.out XX13.out BE4.out HBW4.out (HBA4.out.trans (B6.out.mono HBA4.out.size)) ((R4.out.fresh (HBA4.out.trans (B6.out.mono HBA4.out.size))).kind (fun b _ h => .inl h))
                    · as_aux_lemma =>
                        obtain ⟨z1, z2, z3, _, _⟩ := X103.out
                        have HX := Lib.hid hX
                        have HFR := Lib.hid (free_one_yes s n k (rowsOf L) ⟨xf, xn, xz⟩ w3 S3.out HXWF.out hX)
                        clear hX g1 g2 g3
                        go_wp2_with fail
                        refine HFR.out.mono ?_
                        rintro e w4 ⟨rfl, s4, o4⟩
                        obtain ⟨r4, t4, x12, x13, be4, hb4⟩ := sw_mid HPP.out HTB.out HB0.out.1 HF.out HFB.out R3.out T3.out X12.out X13.out BE3.out HBW3.out o4
                        have S4 := Lib.hid s4
                        have R4 := Lib.hid r4
                        have T4 := Lib.hid t4
                        have XX12 := Lib.hid x12
                        have XX13 := Lib.hid x13
                        have BE4 := Lib.hid be4
                        have HBW4 := Lib.hid hb4
                        obtain ⟨n1, n2, n3, _, _⟩ := X103.out.only o4 (HFB.out _ HPP.out.2.2.2)
                        have hba : Below w4.heap.size w4 (w4.alloc (.cells #[.int .i64 xf, .int .i64 xn, .int .i64 xz] 32)) := (Below.refl _ _).alloc (Nat.le_refl _) _
                        have HBA4 := Lib.hid hba
                        have HRF := Lib.hid (reffree_yes _ L w4.heap.size xf xn xz (w4.alloc (.cells #[.int .i64 xf, .int .i64 xn, .int .i64 xz] 32)) (r4.fresh hba) hfew (box3_new w4 xf xn xz 32) HX.out)
                        clear s4 o4 r4 t4 x12 x13 be4 hb4 hba HFR z1 z2 z3
                        go_wp2_with fail
                        refine HRF.out.mono ?_
                        rintro e w6 ⟨v6, i, hi, hx, rfl, r6, b6⟩
                        have B6 := Lib.hid b6
                        have R6 := Lib.hid r6
                        have HIX : Hid (rowsOf (L.eraseIdx i) = without (rowsOf L) ⟨xf, xn, xz⟩) := rows_less HGD.out hi hx
                        clear b6 r6 hx n1 n2 n3
                        go_wp2_with fail
                        go_meet
                        case rel =>
                          exact sw_zero HPP.out HTB.out HB0.out.1 (L' := L.eraseIdx i) (by rw [HIX.out]; exact S4.out.mono (Nat.le_succ k)) T4.out XX12.out XX13.out BE4.out HBW4.out (HBA4.out.trans (B6.out.mono HBA4.out.size)) (R6.out.kind (fun b _ h => h.imp id (fun h => Nat.le_trans HBA4.out.size h)))
            case rest =>
              as_aux_lemma =>
                obtain ⟨L', zf, zn, zz, t, rfl, rfl, s5, r5, t5, y12, y13, hzwf, b5, hB5⟩ := hcut
                obtain ⟨a5, c5, rfl⟩ := r5.form
                have hfew5 := rows_few s5.good (by omega)
                have htot5 := total_le s5.good
                have HU := Lib.hid (eused_any s n _ _ wc s5)
                have HRU := Lib.hid (fun (w' : World) (hb : Below wc.heap.size wc w') => refused_any _ L' w' (r5.fresh hb) (by omega) hfew5)
                have S5 := Lib.hid s5
                have R5 := Lib.hid r5
                have T5 := Lib.hid t5
                have Y12 := Lib.hid y12
                have Y13 := Lib.hid y13
                have B5 := Lib.hid b5
                have HB5 := Lib.hid hB5
                have HZ := Lib.hid hzwf
                obtain ⟨u1, u2, u3, _, _⟩ := y12
                obtain ⟨v1, v2, v3, _, _⟩ := y13
                generalize total (rowsOf L') = T at HU HRU htot5
                clear s5 r5 t5 b5 hB5 hzwf g1 g2 g3
                go_wp2_with fail
                refine HU.out.mono ?_
                rintro e w6 ⟨rfl, s6, b6⟩
                have S6 := Lib.hid s6
                have B6 := Lib.hid b6
                obtain ⟨m1, m2, m3, _, _⟩ := Y13.out.fresh b6
                have HRU6 := Lib.hid (HRU.out w6 b6)
                clear s6 b6 u1 u2 u3 v1 v2 v3
                go_wp2_with fail
                refine HRU6.out.mono ?_
                rintro e w7 ⟨rfl, rfl⟩
                have hsz6 := B6.out.size
                have R6 := Lib.hid (R5.out.fresh B6.out)
                have T6 := Lib.hid (T5.out.fresh B6.out)
                have BE6 := Lib.hid (B5.out.trans (B6.out.mono B5.out.size))
                have HBW6 : Hid (B ≤ w6.heap.size) := Nat.le_trans HB5.out B6.out.size
                by_cases hz : 0 < zn
                · have hz' : decide (0 < zn) = true := by simpa using hz
                  go_wp2_with (at_builtin; refine wpList_append_own_at _ rfl _ _ 30 rfl B 32 i0 (.agg #[.int .i64 0, .int .i64 0, .int .i64 0]) 3 24 Tryd.underlying30 hi hz0 hz1 hz2 rfl (by decide) _ X.length (flatX X) rfl ?c0 ⟨w6.heap.size, 0, none⟩ 1 1 [.int .i64 zf, .int .i64 zn, .int .i64 zz] rfl rfl ?c1 ?c2 ?c3 ?c4 ?c5 ?_)
                  case c0 => exact T6.out.fresh ((Below.refl _ _).alloc (Nat.le_refl _) (.cells #[.int .i64 zf, .int .i64 zn, .int .i64 zz] 32))
                  case c1 =>
                    have hbx := box3_new w6 zf zn zz 32
                    intro j u hj
                    match j, hj with
                    | 0, hj => simp at hj; subst hj; exact hbx.1
                    | 1, hj => simp at hj; subst hj; exact hbx.2.1
                    | 2, hj => simp at hj; subst hj; exact hbx.2.2.1
                  case c2 => intro u hu; simp at hu; rcases hu with rfl | rfl | rfl <;> rfl
                  case c3 => unfold maxLen; omega
                  case c4 => omega
                  case c5 => have := HBW6.out; simp; omega
                  intro v8 w8 hown8 hgrow8 _ hloc8
                  have o8 : Only (fun b => (Value.slice a2 X.length c2).ownBlock = some b) w6 w8 := ((Only.refl _ w6).alloc _).grown hgrow8 (fun g hg => .inl hg)
                  have O8 := Lib.hid o8
                  have HO8 := Lib.hid hown8
                  have HL8 := Lib.hid hloc8
                  clear hown8 hgrow8 o8 hloc8
                  go_wp2_with fail
                  go_roundw
                  case rel =>
                    have hPP := HPP.out
                    have hB0 := HB0.out
                    have hT := HTB.out
                    refine ⟨k + 1, L', X ++ [⟨zf, zn, zz⟩], by omega, by go_num, ?_, ?_, ?_, ?_, ?_, ?_, ?_⟩
                    · exact S6.out.only O8.out (fun j hj e => by have := hj.2; have := hT j e; omega) (fun e => by have := hT 0 e; omega)
                    · refine ((R6.out.kind (M := fun b => NR s (.slice a2 X.length c2) b ∧ NR s v8 b) (fun b hb hN => ⟨hN.1, hN.1.1, fun e => ?_⟩)).only O8.out (fun b hb e => hb.1.2 e)).kind (fun b _ hb => hb.2)
                      rcases HL8.out with h8 | h8
                      · exact hN.1.2 (h8 ▸ e)
                      · rw [h8] at e
                        injection e with e
                        omega
                    · unfold OwnX
                      rw [flatX_append, List.length_append]
                      exact HO8.out
                    · intro x hx
                      rcases List.mem_append.1 hx with hx | hx
                      · exact HWF.out x hx
                      · rw [List.mem_singleton.1 hx]; exact HZ.out hz
                    · simp; omega
                    · exact BE6.out.trans (O8.out.below (fun i hi e => by have := hT i e; omega) BE6.out.size)
                    · exact Nat.le_trans HBW6.out O8.out.size
                  case measure => simp [intOf]; omega
                · have hz' : decide (0 < zn) = false := by simpa using hz
                  go_wp2_with fail
                  go_roundw
                  case rel =>
                    exact ⟨k + 1, L', X, by omega, by go_num, S6.out, R6.out.kind (fun b _ hb => hb.1), T6.out, HWF.out, by omega, BE6.out, HBW6.out⟩
                  case measure => simp [intOf]; omega
      · as_aux_lemma =>
          have HS := Lib.hid hs
          have HR := Lib.hid hrows
          have HBE := Lib.hid hb
          obtain ⟨a1, c1, rfl⟩ := hrows.form
          obtain ⟨a2, c2, rfl⟩ := htold.form
          clear hs hrows htold hwf hb hBw
          go_wp2_with fail
          go_loopw [19] (fun i wx => ∃ j : Nat, j ≤ L.length ∧ i = .int .i64 j ∧ SpaceAt wx s n (k + j) (rowsOf L) ∧ RowsV (NR s (.slice a2 X.length c2)) wx (.slice a1 L.length c1) L ∧ Below w.heap.size w wx) (fun i _ => L.length - (intOf i).toNat)
          case atStart => exact ⟨0, Nat.zero_le _, rfl, HS.out, HR.out, HBE.out⟩
          case round =>
            obtain ⟨j, hj, rfl, hs, hrows, hb⟩ := hrel
            have HS := Lib.hid hs
            have HR := Lib.hid hrows
            have HBE := Lib.hid hb
            by_cases hjl : j < L.length
            · obtain ⟨b, off, c', he, _, h1, h2, h3, h4, h5⟩ := hrows.at_ j hjl
              injection he with e1 e2 e3
              subst e1 e3
              have hjl' : (j : Int) < L.length := by omega
              have hget := get_yes s n _ _ L[j].1 wr hs (List.mem_map.2 ⟨L[j], List.getElem_mem hjl, rfl⟩) (by omega)
              obtain ⟨⟨⟨f, xs⟩, bv⟩, hp⟩ : ∃ p, L[j] = p := ⟨_, rfl⟩
              rw [hp] at h1 h2 h3 h4 h5 hget
              dsimp only at h1 h2 h3 h4 h5 hget
              obtain ⟨ba, bc, rfl, _⟩ := h5.form
              have HG := Lib.hid hget
              have HKC : Hid (∀ w2 : World, Only s.F wr w2 → w2.cell? ⟨b, off + j * 4 + 3, none⟩ = some (.slice ba xs.length bc) ∧ Bts (NR s (.slice a2 X.length c2)) w2 (.slice ba xs.length bc) xs) := fun w2 o => by
                have h := hrows.only o (fun b hb => hb.1)
                obtain ⟨b', off', c'', he', _, _, _, _, h4', h5'⟩ := h.at_ j hjl
                injection he' with e1
                injection e1 with e1
                injection e1 with e1 e2
                subst e1 e2
                rw [hp] at h4' h5'
                exact ⟨h4', h5'⟩
              generalize len (f, xs) = q at h2 HG
              clear hs hrows hb h5 hget hp
              go_wp2_with fail
              with_reducible refine HG.out.mono ?_
              rintro e w2 ⟨v2, rfl, hv2, s2, o2⟩
              obtain ⟨g1, g2⟩ := HKC.out w2 o2
              have HSM := Lib.hid (same_eq v2 _ xs w2 hv2 g2)
              obtain ⟨a3, c3, rfl, _⟩ := hv2.form
              have S2 := Lib.hid s2
              have R2 := Lib.hid (HR.out.only o2 (fun b hb => hb.1))
              have B2 : Hid (Below w.heap.size w w2) := HBE.out.trans (o2.below HF.out HBE.out.size)
              clear hv2 g2 s2 o2 h1 h2 h3 h4
              go_wp2_with fail
              refine HSM.out.mono ?_
              rintro e w3 ⟨rfl, rfl⟩
              go_wp2_with fail
              go_roundw
              case rel => exact ⟨j + 1, by omega, by go_num, S2.out, R2.out, B2.out⟩
              case measure => simp [intOf]; omega
            · have HEL := Lib.hid (elen_any s n _ _ wr hs)
              have HKN := Lib.hid (known_true wr hs.tab (by have := hs.lt; omega))
              clear hs hrows hb
              go_wp2_with fail
              refine HEL.out.mono ?_
              rintro e w3 ⟨rfl, rfl⟩
              go_wp2_with fail
              refine HKN.out.mono ?_
              rintro e w3 ⟨rfl, b3⟩
              have B3 : Hid (Below w.heap.size w w3) := HBE.out.trans (b3.mono HBE.out.size)
              clear b3
              go_wp2_with fail
              go_ret
              exact ⟨rfl, B3.out⟩

theorem walk (w : World) (hT : Tab w) (h0 : 0 < w.heap.size) (n : Int) (_wn : (Lit.int .i64 n).wf = true) (v : Value) (len0 : Nat) (hv : DosZ w v len0) :
    Calls Tryd.prog 3 #[.int .i64 n, v] w fun e w' => e = .returned (.bool true) ∧ Below w.heap.size w w' := by
  by_cases h1 : n < 0 ∨ 20000 < n
  · exact walk_bad w hT h0 n v len0 hv h1
  by_cases h2 : 300 < n
  · exact walk_known w hT h0 n v len0 hv h2 (by omega)
  obtain ⟨m, rfl⟩ := Int.eq_ofNat_of_zero_le (show 0 ≤ n by omega)
  exact walk_main w hT h0 m v len0 hv (by omega)
end Go.Proofs.YtkjpemgoiobeeaaDoor.extentSteps
