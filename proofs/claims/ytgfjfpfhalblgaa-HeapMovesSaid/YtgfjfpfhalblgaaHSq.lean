/- What slices' partialInsertionSortCmpFunc does, with a method as the comparison. -/
import Derived.Test.YtgfjfpfhalblgaaHSa
import Derived.Deep.DeepCutAuto
import Derived.Deep.CutBlock
namespace Go.Proofs.Ytgfjfpfhalblgaa
set_option maxRecDepth 1000000
open Go.ChangeShapes Go.WideShapes Go.ChangeAt Go.RowKit

/-- What lies just ahead of the row is less than all in it. -/
def LowB (K : Nat → Int) (a b : Nat) (D : Nat → Nat) : Prop := 0 < a → ∀ q, a ≤ q → q < b → K (D (a - 1)) < K (D q)
theorem LowB.shuf {K : Nat → Int} {a b : Nat} {D D' : Nat → Nat} (h : LowB K a b D) (s : Shuf a b D D') : LowB K a b D' := fun h0 => by
  rw [s.out (a - 1) (by omega)]
  exact s.all (P := fun x => K (D (a - 1)) < K x) (h h0)
theorem sorted_next {K : Nat → Int} {a i : Nat} {D : Nat → Nat} (h : SortedK K a (i + 1) D) (hl : K (D i) < K (D (i + 1))) : SortedK K a (i + 2) D := fun p q h1 h2 h3 => by
  by_cases e : q = i + 1
  · subst e
    by_cases e2 : p = i
    · subst e2; exact hl
    · exact Int.lt_trans (h p i h1 (by omega) (by omega)) hl
  · exact h p q h1 h2 (by omega)
theorem sorted_swp {K : Nat → Int} {a m i j : Nat} {D : Nat → Nat} (h : SortedK K a m D) (hi : m ≤ i) (hj : m ≤ j) : SortedK K a m (swp D i j) := fun p q h1 h2 h3 => by
  rw [swp_o D (by omega) (by omega), swp_o D (by omega) (by omega)]
  exact h p q h1 h2 h3
/-- Whether it is sorted: the row with other places. -/
def PartialPost (w0 : World) (blk off n : Nat) (K : Nat → Int) (M a b : Nat) (D : Nat → Nat) (e : Ending) (w' : World) : Prop :=
  ∃ (fl : Bool) (D' : Nat → Nat), e = .returned (.bool fl) ∧ Srt w0 blk off n K M D' w' ∧ Shuf a b D D' ∧ (fl = true → SortedK K a b D')
def UpSRel (w0 : World) (blk off n : Nat) (K : Nat → Int) (M a b i0 : Nat) (D : Nat → Nat) (s : Value) (wx : World) : Prop :=
  ∃ i : Nat, s = .int .i64 i ∧ a < i ∧ i ≤ b ∧ i0 ≤ i ∧ Hid (Srt w0 blk off n K M D wx) ∧ Hid (SortedK K a i D)
def LeftRel (w0 : World) (blk off n : Nat) (K : Nat → Int) (M a b ip : Nat) (D : Nat → Nat) (_s : Value) (wx : World) : Prop :=
  ∃ D' : Nat → Nat, Hid (Srt w0 blk off n K M D' wx) ∧ Hid (Shuf a b D D') ∧ Hid (SortedK K a (ip + 1) D')
set_option maxHeartbeats 16000000 in
theorem partial_any (w0 : World) (blk off n cap M a b : Nat) (K : Nat → Int) (hp : Value) (D : Nat → Nat) (w : World) (hC : CmpOk w0 blk K M hp) (h : Srt w0 blk off n K M D w) (hL : LowB K a b D) (hab : a < b) (hb : b ≤ n) (hn : n ≤ 1000000000) :
    Calls Try.prog 43 #[.slice (some ⟨blk, off, none⟩) n cap, .int .i64 a, .int .i64 b, .func (.func 34) #[hp] #[]] w (PartialPost w0 blk off n K M a b D) := by
  have HC := Lib.hid hC
  have S0 := Lib.hid h
  have HL := Lib.hid hL
  have eg := eg34
  clear h hC hL
  go_enter Try.func43, Try.ntmps43
  go_wp2
  go_loopg [9, 10] 5 (fun g s9 s10 wr => ∃ (i c : Nat) (Di : Nat → Nat), s9 = .int .i64 i ∧ s10 = .int .i64 c ∧ a < i ∧ i ≤ b ∧ c ≤ 5 ∧ 5 - c ≤ g ∧ Hid (Srt w0 blk off n K M Di wr) ∧ Hid (Shuf a b D Di) ∧ Hid (SortedK K a i Di))
  case atStart => exact ⟨a + 1, 0, D, by go_num, by go_num, by omega, by omega, by omega, by omega, S0, Lib.hid (Shuf.refl _ _ _), Lib.hid (fun p q h1 h2 h3 => by omega)⟩
  case round =>
    obtain ⟨i, c, Di, rfl, rfl, hai, hib, hc5, hg, S1, SH, SO⟩ := hrel
    clear S0
    by_cases hc : c < 5
    · have hcz : (c : Int) < 5 := by omega
      go_upto_block 2 with fail
      go_cut [9] from 15 to 140 (fun s9 wx => UpSRel w0 blk off n K M a b i Di s9 wx)
      case first =>
        go_wp2_with fail
        go_loopg [9] b (fun g s9 wr => ∃ ix : Nat, s9 = .int .i64 ix ∧ a < ix ∧ ix ≤ b ∧ i ≤ ix ∧ b - ix ≤ g ∧ Hid (Srt w0 blk off n K M Di wr) ∧ Hid (SortedK K a ix Di))
        case atStart => exact ⟨i, rfl, by omega, by omega, Nat.le_refl _, by omega, S1, SO⟩
        case round =>
          clear S1 SO
          obtain ⟨ix, rfl, hax, hxb, hxi, hg2, S1, SO⟩ := hrel
          obtain ⟨ip, rfl⟩ : ∃ q, ix = q + 1 := ⟨ix - 1, by omega⟩
          by_cases hlt : ip + 1 < b
          · have hd : decide ((ip : Int) + 1 < (b : Int)) = true := decide_eq_true (by omega)
            have hd2 : decide (((ip + 1 : Nat) : Int) < (b : Int)) = true := decide_eq_true (by omega)
            have p6 : IntKind.i64.wrap (ip : Int) = ip := by rw [IntKind.wrap_i64]; omega
            by_cases hl : K (Di (ip + 1)) < K (Di ip)
            · have HLT := Lib.hid hl
              clear hl
              obtain ⟨i1, hi1⟩ : ∃ q : Nat, q = ip + 1 := ⟨_, rfl⟩
              have eai1 : ((ip : Int) + 1).toNat = i1 := by omega
              have pai1 : (0 : Int) ≤ (ip : Int) + 1 := by omega
              have bai1 : (ip : Int) + 1 < (n : Int) := by omega
              have rai1 : IntKind.i64.wrap ((ip : Int) + 1) = (ip : Int) + 1 := by rw [IntKind.wrap_i64]; omega
              obtain ⟨j1, hj1⟩ : ∃ q : Nat, q = ip := ⟨_, rfl⟩
              have eaj1 : ((ip : Int)).toNat = j1 := by omega
              have paj1 : (0 : Int) ≤ (ip : Int) := by omega
              have baj1 : (ip : Int) < (n : Int) := by omega
              have raj1 : IntKind.i64.wrap ((ip : Int)) = (ip : Int) := by rw [IntKind.wrap_i64]; omega
              obtain ⟨x1, hx1⟩ : ∃ x, Di (i1) = x := ⟨_, rfl⟩
              obtain ⟨y1, hy1⟩ : ∃ y, Di (j1) = y := ⟨_, rfl⟩
              obtain ⟨c11, f11⟩ := S1.out.row i1 (by omega)
              obtain ⟨c21, f21⟩ := S1.out.row j1 (by omega)
              have hxM1 : x1 < M := by rw [← hx1]; exact S1.out.ky.el _ (by omega)
              have hyM1 : y1 < M := by rw [← hy1]; exact S1.out.ky.el _ (by omega)
              rw [hx1] at c11
              rw [hy1] at c21
              have HCL1 := Lib.hid (fun q => HC.out (wr.drewN q) x1 y1 (S1.out.on.drewN q) hxM1 hyM1)
              have hz1 : decide (cmpK K x1 y1 < 0) = true := by
                rw [← hx1, ← hy1, hi1, hj1]
                exact decide_eq_true (cmpK_lt.2 HLT.out)
              clear hx1 hy1 hxM1 hyM1 hi1 hj1
              generalize cmpK K x1 y1 = z1 at hz1 HCL1
              go_wp2_with fail
              go_quiet ((go_at_fn 34; exact Calls.quiet_of (HCL1.out _)))
              have w2S := Lib.hid (S1.out.drewN nq)
              clear c11 c21 f11 f21 HCL1
              generalize wr.drewN nq = w2 at w2S ⊢
              clear nq
              clear eai1 pai1 bai1 rai1 eaj1 paj1 baj1 raj1
              clear p6
              go_wp2_with fail
              go_meet
              case rel => exact ⟨ip + 1, by go_num, hax, hxb, hxi, w2S, SO⟩
            · have HLT := Lib.hid hl
              clear hl
              obtain ⟨i2, hi2⟩ : ∃ q : Nat, q = ip + 1 := ⟨_, rfl⟩
              have eai2 : ((ip : Int) + 1).toNat = i2 := by omega
              have pai2 : (0 : Int) ≤ (ip : Int) + 1 := by omega
              have bai2 : (ip : Int) + 1 < (n : Int) := by omega
              have rai2 : IntKind.i64.wrap ((ip : Int) + 1) = (ip : Int) + 1 := by rw [IntKind.wrap_i64]; omega
              obtain ⟨j2, hj2⟩ : ∃ q : Nat, q = ip := ⟨_, rfl⟩
              have eaj2 : ((ip : Int)).toNat = j2 := by omega
              have paj2 : (0 : Int) ≤ (ip : Int) := by omega
              have baj2 : (ip : Int) < (n : Int) := by omega
              have raj2 : IntKind.i64.wrap ((ip : Int)) = (ip : Int) := by rw [IntKind.wrap_i64]; omega
              obtain ⟨x2, hx2⟩ : ∃ x, Di (i2) = x := ⟨_, rfl⟩
              obtain ⟨y2, hy2⟩ : ∃ y, Di (j2) = y := ⟨_, rfl⟩
              obtain ⟨c12, f12⟩ := S1.out.row i2 (by omega)
              obtain ⟨c22, f22⟩ := S1.out.row j2 (by omega)
              have hxM2 : x2 < M := by rw [← hx2]; exact S1.out.ky.el _ (by omega)
              have hyM2 : y2 < M := by rw [← hy2]; exact S1.out.ky.el _ (by omega)
              rw [hx2] at c12
              rw [hy2] at c22
              have HCL2 := Lib.hid (fun q => HC.out (wr.drewN q) x2 y2 (S1.out.on.drewN q) hxM2 hyM2)
              have hz2 : decide (cmpK K x2 y2 < 0) = false := by
                rw [← hx2, ← hy2, hi2, hj2]
                exact decide_eq_false (fun h => HLT.out (cmpK_lt.1 h))
              clear hx2 hy2 hxM2 hyM2 hi2 hj2
              generalize cmpK K x2 y2 = z2 at hz2 HCL2
              go_wp2_with fail
              go_quiet ((go_at_fn 34; exact Calls.quiet_of (HCL2.out _)))
              have w2S := Lib.hid (S1.out.drewN nq)
              clear c12 c22 f12 f22 HCL2
              generalize wr.drewN nq = w2 at w2S ⊢
              clear nq
              clear eai2 pai2 bai2 rai2 eaj2 paj2 baj2 raj2
              clear p6
              have HNL : Hid (K (Di ip) < K (Di (ip + 1))) := by
                have h1 := w2S.out.ky.inj ip (ip + 1) (by omega) (by omega) (by omega)
                have h2 := HLT.out
                show _ < _
                omega
              go_wp2_with fail
              go_roundg (b - (ip + 2))
              case measure => omega
              case rel => exact ⟨ip + 2, by go_num, by omega, by omega, by omega, Nat.le_refl _, w2S, Lib.hid (sorted_next SO.out HNL.out)⟩
          · have hd : decide ((ip : Int) + 1 < (b : Int)) = false := decide_eq_false (by omega)
            have hd2 : decide (((ip + 1 : Nat) : Int) < (b : Int)) = false := decide_eq_false (by omega)
            go_wp2_with fail
            go_quiet (fail)
            have w2S := Lib.hid (S1.out.drewN nq)
            generalize wr.drewN nq = w2 at w2S ⊢
            clear nq
            go_wp2_with fail
            go_meet
            case rel => exact ⟨ip + 1, by go_num, hax, hxb, hxi, w2S, SO⟩
      case rest =>
        clear S1 SO hai hib
        obtain ⟨i, rfl, hai, hib, _, S2, SO2⟩ := hcut
        by_cases he : i = b
        · have hd : ((i : Int) == (b : Int)) = true := by simp [he]
          have HO : Hid (SortedK K a b Di) := by have := SO2.out; rwa [he] at this
          clear he
          go_wp2_with fail
          go_ret
          exact ⟨true, Di, rfl, S2.out, SH.out, fun _ => HO.out⟩
        · have hd : ((i : Int) == (b : Int)) = false := by simp; omega
          by_cases h50 : (b : Int) - a < 50
          · clear he
            go_wp2_with fail
            go_ret
            exact ⟨false, Di, rfl, S2.out, SH.out, fun h => by simp at h⟩
          · obtain ⟨ip, rfl⟩ : ∃ q, i = q + 1 := ⟨i - 1, by omega⟩
            have hdb : ((ip : Int) + 1 == (b : Int)) = false := hd
            have hib2 : ip + 1 < b := by omega
            have p6 : IntKind.i64.wrap (ip : Int) = ip := by rw [IntKind.wrap_i64]; omega
            clear he
            go_wp2_with fail
            obtain ⟨i3, hi3⟩ : ∃ q : Nat, q = ip + 1 := ⟨_, rfl⟩
            have eai3 : ((ip : Int) + 1).toNat = i3 := by omega
            have pai3 : (0 : Int) ≤ (ip : Int) + 1 := by omega
            have bai3 : (ip : Int) + 1 < (n : Int) := by omega
            have rai3 : IntKind.i64.wrap ((ip : Int) + 1) = (ip : Int) + 1 := by rw [IntKind.wrap_i64]; omega
            obtain ⟨j3, hj3⟩ : ∃ q : Nat, q = ip := ⟨_, rfl⟩
            have eaj3 : ((ip : Int)).toNat = j3 := by omega
            have paj3 : (0 : Int) ≤ (ip : Int) := by omega
            have baj3 : (ip : Int) < (n : Int) := by omega
            have raj3 : IntKind.i64.wrap ((ip : Int)) = (ip : Int) := by rw [IntKind.wrap_i64]; omega
            obtain ⟨x3, hx3⟩ : ∃ x, Di (i3) = x := ⟨_, rfl⟩
            obtain ⟨y3, hy3⟩ : ∃ y, Di (j3) = y := ⟨_, rfl⟩
            obtain ⟨c13, f13⟩ := S2.out.row i3 (by omega)
            obtain ⟨c23, f23⟩ := S2.out.row j3 (by omega)
            obtain ⟨u3, c33⟩ := S2.out.second (i := i3) (j := j3) (by omega) (by omega) (.int .i64 (y3 : Nat))
            have w5S : Hid (Srt w0 blk off n K M (swp Di (ip + 1) (ip)) ((wc.setCell ⟨blk, off + i3, none⟩ (.int .i64 (y3 : Nat))).setCell ⟨blk, off + j3, none⟩ (.int .i64 (x3 : Nat))).drew) := by
              show Srt _ _ _ _ _ _ _ _
              rw [← hx3, ← hy3]
              subst hi3
              subst hj3
              exact (S2.out.swap (by omega) (by omega)).drewN 1
            rw [hx3] at c13
            rw [hy3] at c23
            clear hx3 hy3 hi3 hj3
            go_wp2_with fail
            go_region
            clear c13 c23 c33 f13 f23
            generalize ((wc.setCell ⟨blk, off + i3, none⟩ (.int .i64 (y3 : Nat))).setCell ⟨blk, off + j3, none⟩ (.int .i64 (x3 : Nat))).drew = w5 at w5S ⊢
            clear eai3 pai3 bai3 rai3 eaj3 paj3 baj3 raj3
            have SP : Hid (SortedK K a ip (swp Di (ip + 1) ip)) := Lib.hid (sorted_swp (fun p q h1 h2 h3 => SO2.out p q h1 h2 (by omega)) (by omega) (by omega))
            have SH2 : Hid (Shuf a b D (swp Di (ip + 1) ip)) := Lib.hid (SH.out.trans (shuf_swp _ ⟨by omega, by omega⟩ ⟨by omega, by omega⟩))
            have L2 : Hid (LowB K a b (swp Di (ip + 1) ip)) := Lib.hid (HL.out.shuf SH2.out)
            clear SH SO2 S2 hd hdb h50
            generalize swp Di (ip + 1) ip = D2 at SP SH2 L2 w5S
            by_cases h2 : (2 : Int) ≤ (ip : Int) + 1 - a
            · go_upto_block 4 with fail
              go_cut [11] from 15 to 140 (fun s11 wx => LeftRel w0 blk off n K M a b ip D2 s11 wx)
              case first =>
                go_wp2_with fail
                go_loopg [11] ip (fun g s11 wr => ∃ (jx : Nat) (Dj : Nat → Nat), s11 = .int .i64 jx ∧ a ≤ jx ∧ jx ≤ ip ∧ jx ≤ g ∧ Hid (Srt w0 blk off n K M Dj wr) ∧ Hid (Shuf a b D2 Dj) ∧ Hid (InsK K a ip jx Dj))
                case atStart => exact ⟨ip, D2, by first | rfl | go_num, by omega, Nat.le_refl _, Nat.le_refl _, w5S, Lib.hid (Shuf.refl _ _ _), Lib.hid (ins_start SP.out)⟩
                case round =>
                  clear w5S
                  obtain ⟨jx, Dj, rfl, hax, hxi, hg2, SJ, SHJ, IJ⟩ := hrel
                  by_cases h0 : jx = 0
                  · have hd : ¬ (1 : Int) ≤ (jx : Int) := by omega
                    have HE : Hid (SortedK K a (ip + 1) Dj) := Lib.hid (ins_stop IJ.out hax (.inl (by omega)))
                    clear h0
                    go_wp2_with fail
                    go_meet
                    case rel => exact ⟨Dj, SJ, SHJ, HE⟩
                  · obtain ⟨jp, rfl⟩ : ∃ q, jx = q + 1 := ⟨jx - 1, by omega⟩
                    have hd : (1 : Int) ≤ (jp : Int) + 1 := by omega
                    have hd2 : (1 : Int) ≤ ((jp + 1 : Nat) : Int) := by omega
                    have p6 : IntKind.i64.wrap (jp : Int) = jp := by rw [IntKind.wrap_i64]; omega
                    clear h0
                    by_cases hl : K (Dj (jp + 1)) < K (Dj jp)
                    · have HLT := Lib.hid hl
                      have haj : a ≤ jp := by
                        rcases Nat.lt_or_ge jp a with h | h
                        · have e : jp + 1 = a := by omega
                          have := (L2.out.shuf SHJ.out) (by omega) (jp + 1) (by omega) (by omega)
                          rw [← e] at this
                          simp only [Nat.add_sub_cancel] at this
                          omega
                        · exact h
                      clear hl
                      obtain ⟨i4, hi4⟩ : ∃ q : Nat, q = jp + 1 := ⟨_, rfl⟩
                      have eai4 : ((jp : Int) + 1).toNat = i4 := by omega
                      have pai4 : (0 : Int) ≤ (jp : Int) + 1 := by omega
                      have bai4 : (jp : Int) + 1 < (n : Int) := by omega
                      have rai4 : IntKind.i64.wrap ((jp : Int) + 1) = (jp : Int) + 1 := by rw [IntKind.wrap_i64]; omega
                      obtain ⟨j4, hj4⟩ : ∃ q : Nat, q = jp := ⟨_, rfl⟩
                      have eaj4 : ((jp : Int)).toNat = j4 := by omega
                      have paj4 : (0 : Int) ≤ (jp : Int) := by omega
                      have baj4 : (jp : Int) < (n : Int) := by omega
                      have raj4 : IntKind.i64.wrap ((jp : Int)) = (jp : Int) := by rw [IntKind.wrap_i64]; omega
                      obtain ⟨x4, hx4⟩ : ∃ x, Dj (i4) = x := ⟨_, rfl⟩
                      obtain ⟨y4, hy4⟩ : ∃ y, Dj (j4) = y := ⟨_, rfl⟩
                      obtain ⟨c14, f14⟩ := SJ.out.row i4 (by omega)
                      obtain ⟨c24, f24⟩ := SJ.out.row j4 (by omega)
                      have hxM4 : x4 < M := by rw [← hx4]; exact SJ.out.ky.el _ (by omega)
                      have hyM4 : y4 < M := by rw [← hy4]; exact SJ.out.ky.el _ (by omega)
                      rw [hx4] at c14
                      rw [hy4] at c24
                      have HCL4 := Lib.hid (fun q => HC.out (wr.drewN q) x4 y4 (SJ.out.on.drewN q) hxM4 hyM4)
                      have hz4 : decide (cmpK K x4 y4 < 0) = true := by
                        rw [← hx4, ← hy4, hi4, hj4]
                        exact decide_eq_true (cmpK_lt.2 HLT.out)
                      clear hx4 hy4 hxM4 hyM4 hi4 hj4
                      generalize cmpK K x4 y4 = z4 at hz4 HCL4
                      go_wp2_with fail
                      go_quiet ((go_at_fn 34; exact Calls.quiet_of (HCL4.out _)))
                      have w6S := Lib.hid (SJ.out.drewN nq)
                      clear c14 c24 f14 f24 HCL4
                      generalize wr.drewN nq = w6 at w6S ⊢
                      clear nq
                      clear eai4 pai4 bai4 rai4 eaj4 paj4 baj4 raj4
                      go_wp2_with fail
                      obtain ⟨i5, hi5⟩ : ∃ q : Nat, q = jp + 1 := ⟨_, rfl⟩
                      have eai5 : ((jp : Int) + 1).toNat = i5 := by omega
                      have pai5 : (0 : Int) ≤ (jp : Int) + 1 := by omega
                      have bai5 : (jp : Int) + 1 < (n : Int) := by omega
                      have rai5 : IntKind.i64.wrap ((jp : Int) + 1) = (jp : Int) + 1 := by rw [IntKind.wrap_i64]; omega
                      obtain ⟨j5, hj5⟩ : ∃ q : Nat, q = jp := ⟨_, rfl⟩
                      have eaj5 : ((jp : Int)).toNat = j5 := by omega
                      have paj5 : (0 : Int) ≤ (jp : Int) := by omega
                      have baj5 : (jp : Int) < (n : Int) := by omega
                      have raj5 : IntKind.i64.wrap ((jp : Int)) = (jp : Int) := by rw [IntKind.wrap_i64]; omega
                      obtain ⟨x5, hx5⟩ : ∃ x, Dj (i5) = x := ⟨_, rfl⟩
                      obtain ⟨y5, hy5⟩ : ∃ y, Dj (j5) = y := ⟨_, rfl⟩
                      obtain ⟨c15, f15⟩ := w6S.out.row i5 (by omega)
                      obtain ⟨c25, f25⟩ := w6S.out.row j5 (by omega)
                      obtain ⟨u5, c35⟩ := w6S.out.second (i := i5) (j := j5) (by omega) (by omega) (.int .i64 (y5 : Nat))
                      have w7S : Hid (Srt w0 blk off n K M (swp Dj (jp + 1) (jp)) ((w6.setCell ⟨blk, off + i5, none⟩ (.int .i64 (y5 : Nat))).setCell ⟨blk, off + j5, none⟩ (.int .i64 (x5 : Nat))).drew) := by
                        show Srt _ _ _ _ _ _ _ _
                        rw [← hx5, ← hy5]
                        subst hi5
                        subst hj5
                        exact (w6S.out.swap (by omega) (by omega)).drewN 1
                      rw [hx5] at c15
                      rw [hy5] at c25
                      clear hx5 hy5 hi5 hj5
                      go_wp2_with fail
                      go_region
                      clear c15 c25 c35 f15 f25
                      generalize ((w6.setCell ⟨blk, off + i5, none⟩ (.int .i64 (y5 : Nat))).setCell ⟨blk, off + j5, none⟩ (.int .i64 (x5 : Nat))).drew = w7 at w7S ⊢
                      clear eai5 pai5 bai5 rai5 eaj5 paj5 baj5 raj5
                      clear p6
                      go_wp2_with fail
                      go_roundg jp
                      case measure => omega
                      case rel => exact ⟨jp, _, by first | rfl | go_num, haj, by omega, Nat.le_refl _, w7S, Lib.hid (SHJ.out.trans (shuf_swp _ ⟨by omega, by omega⟩ ⟨by omega, by omega⟩)), Lib.hid (ins_step IJ.out haj hxi HLT.out)⟩
                    · have HLT := Lib.hid hl
                      clear hl
                      obtain ⟨i6, hi6⟩ : ∃ q : Nat, q = jp + 1 := ⟨_, rfl⟩
                      have eai6 : ((jp : Int) + 1).toNat = i6 := by omega
                      have pai6 : (0 : Int) ≤ (jp : Int) + 1 := by omega
                      have bai6 : (jp : Int) + 1 < (n : Int) := by omega
                      have rai6 : IntKind.i64.wrap ((jp : Int) + 1) = (jp : Int) + 1 := by rw [IntKind.wrap_i64]; omega
                      obtain ⟨j6, hj6⟩ : ∃ q : Nat, q = jp := ⟨_, rfl⟩
                      have eaj6 : ((jp : Int)).toNat = j6 := by omega
                      have paj6 : (0 : Int) ≤ (jp : Int) := by omega
                      have baj6 : (jp : Int) < (n : Int) := by omega
                      have raj6 : IntKind.i64.wrap ((jp : Int)) = (jp : Int) := by rw [IntKind.wrap_i64]; omega
                      obtain ⟨x6, hx6⟩ : ∃ x, Dj (i6) = x := ⟨_, rfl⟩
                      obtain ⟨y6, hy6⟩ : ∃ y, Dj (j6) = y := ⟨_, rfl⟩
                      obtain ⟨c16, f16⟩ := SJ.out.row i6 (by omega)
                      obtain ⟨c26, f26⟩ := SJ.out.row j6 (by omega)
                      have hxM6 : x6 < M := by rw [← hx6]; exact SJ.out.ky.el _ (by omega)
                      have hyM6 : y6 < M := by rw [← hy6]; exact SJ.out.ky.el _ (by omega)
                      rw [hx6] at c16
                      rw [hy6] at c26
                      have HCL6 := Lib.hid (fun q => HC.out (wr.drewN q) x6 y6 (SJ.out.on.drewN q) hxM6 hyM6)
                      have hz6 : decide (cmpK K x6 y6 < 0) = false := by
                        rw [← hx6, ← hy6, hi6, hj6]
                        exact decide_eq_false (fun h => HLT.out (cmpK_lt.1 h))
                      clear hx6 hy6 hxM6 hyM6 hi6 hj6
                      generalize cmpK K x6 y6 = z6 at hz6 HCL6
                      go_wp2_with fail
                      go_quiet ((go_at_fn 34; exact Calls.quiet_of (HCL6.out _)))
                      have w6S := Lib.hid (SJ.out.drewN nq)
                      clear c16 c26 f16 f26 HCL6
                      generalize wr.drewN nq = w6 at w6S ⊢
                      clear nq
                      clear eai6 pai6 bai6 rai6 eaj6 paj6 baj6 raj6
                      have HE : Hid (SortedK K a (ip + 1) Dj) := Lib.hid (ins_stop IJ.out hax (.inr (by
                        have h1 := w6S.out.ky.inj jp (jp + 1) (by omega) (by omega) (by omega)
                        have h2 := HLT.out
                        show K (Dj jp) < _
                        omega)))
                      clear p6
                      go_wp2_with fail
                      go_meet
                      case rel => exact ⟨Dj, w6S, SHJ, HE⟩
              case rest =>
                clear w5S p6
                obtain ⟨D3, S8, SH3, SO8⟩ := hcut
                have SH8 : Hid (Shuf a b D D3) := Lib.hid (SH2.out.trans SH3.out)
                by_cases hr : (2 : Int) ≤ (b : Int) - ((ip : Int) + 1)
                · go_wp2_with fail
                  go_loopg [12] b (fun g s12 wr => ∃ (jp : Nat) (Dj : Nat → Nat), s12 = .int .i64 ((jp : Int) + 1) ∧ ip + 1 ≤ jp ∧ jp ≤ b ∧ b - jp ≤ g ∧ Hid (Srt w0 blk off n K M Dj wr) ∧ Hid (Shuf a b D3 Dj) ∧ Hid (SortedK K a (ip + 1) Dj))
                  case atStart => exact ⟨ip + 1, D3, by go_num, Nat.le_refl _, by omega, by omega, S8, Lib.hid (Shuf.refl _ _ _), SO8⟩
                  case round =>
                    clear S8 SO8
                    obtain ⟨jp, Dj, rfl, hpi, hpb, hg2, SJ, SHJ, SOJ⟩ := hrel
                    by_cases hjb : jp + 1 < b
                    · have hd : (jp : Int) + 1 < (b : Int) := by omega
                      have p6 : IntKind.i64.wrap (jp : Int) = jp := by rw [IntKind.wrap_i64]; omega
                      by_cases hl : K (Dj (jp + 1)) < K (Dj jp)
                      · have HLT := Lib.hid hl
                        clear hl
                        obtain ⟨i7, hi7⟩ : ∃ q : Nat, q = jp + 1 := ⟨_, rfl⟩
                        have eai7 : ((jp : Int) + 1).toNat = i7 := by omega
                        have pai7 : (0 : Int) ≤ (jp : Int) + 1 := by omega
                        have bai7 : (jp : Int) + 1 < (n : Int) := by omega
                        have rai7 : IntKind.i64.wrap ((jp : Int) + 1) = (jp : Int) + 1 := by rw [IntKind.wrap_i64]; omega
                        obtain ⟨j7, hj7⟩ : ∃ q : Nat, q = jp := ⟨_, rfl⟩
                        have eaj7 : ((jp : Int)).toNat = j7 := by omega
                        have paj7 : (0 : Int) ≤ (jp : Int) := by omega
                        have baj7 : (jp : Int) < (n : Int) := by omega
                        have raj7 : IntKind.i64.wrap ((jp : Int)) = (jp : Int) := by rw [IntKind.wrap_i64]; omega
                        obtain ⟨x7, hx7⟩ : ∃ x, Dj (i7) = x := ⟨_, rfl⟩
                        obtain ⟨y7, hy7⟩ : ∃ y, Dj (j7) = y := ⟨_, rfl⟩
                        obtain ⟨c17, f17⟩ := SJ.out.row i7 (by omega)
                        obtain ⟨c27, f27⟩ := SJ.out.row j7 (by omega)
                        have hxM7 : x7 < M := by rw [← hx7]; exact SJ.out.ky.el _ (by omega)
                        have hyM7 : y7 < M := by rw [← hy7]; exact SJ.out.ky.el _ (by omega)
                        rw [hx7] at c17
                        rw [hy7] at c27
                        have HCL7 := Lib.hid (fun q => HC.out (wr.drewN q) x7 y7 (SJ.out.on.drewN q) hxM7 hyM7)
                        have hz7 : decide (cmpK K x7 y7 < 0) = true := by
                          rw [← hx7, ← hy7, hi7, hj7]
                          exact decide_eq_true (cmpK_lt.2 HLT.out)
                        clear hx7 hy7 hxM7 hyM7 hi7 hj7
                        generalize cmpK K x7 y7 = z7 at hz7 HCL7
                        go_wp2_with fail
                        go_quiet ((go_at_fn 34; exact Calls.quiet_of (HCL7.out _)))
                        have w9S := Lib.hid (SJ.out.drewN nq)
                        clear c17 c27 f17 f27 HCL7
                        generalize wr.drewN nq = w9 at w9S ⊢
                        clear nq
                        clear eai7 pai7 bai7 rai7 eaj7 paj7 baj7 raj7
                        go_wp2_with fail
                        obtain ⟨i8, hi8⟩ : ∃ q : Nat, q = jp + 1 := ⟨_, rfl⟩
                        have eai8 : ((jp : Int) + 1).toNat = i8 := by omega
                        have pai8 : (0 : Int) ≤ (jp : Int) + 1 := by omega
                        have bai8 : (jp : Int) + 1 < (n : Int) := by omega
                        have rai8 : IntKind.i64.wrap ((jp : Int) + 1) = (jp : Int) + 1 := by rw [IntKind.wrap_i64]; omega
                        obtain ⟨j8, hj8⟩ : ∃ q : Nat, q = jp := ⟨_, rfl⟩
                        have eaj8 : ((jp : Int)).toNat = j8 := by omega
                        have paj8 : (0 : Int) ≤ (jp : Int) := by omega
                        have baj8 : (jp : Int) < (n : Int) := by omega
                        have raj8 : IntKind.i64.wrap ((jp : Int)) = (jp : Int) := by rw [IntKind.wrap_i64]; omega
                        obtain ⟨x8, hx8⟩ : ∃ x, Dj (i8) = x := ⟨_, rfl⟩
                        obtain ⟨y8, hy8⟩ : ∃ y, Dj (j8) = y := ⟨_, rfl⟩
                        obtain ⟨c18, f18⟩ := w9S.out.row i8 (by omega)
                        obtain ⟨c28, f28⟩ := w9S.out.row j8 (by omega)
                        obtain ⟨u8, c38⟩ := w9S.out.second (i := i8) (j := j8) (by omega) (by omega) (.int .i64 (y8 : Nat))
                        have w10S : Hid (Srt w0 blk off n K M (swp Dj (jp + 1) (jp)) ((w9.setCell ⟨blk, off + i8, none⟩ (.int .i64 (y8 : Nat))).setCell ⟨blk, off + j8, none⟩ (.int .i64 (x8 : Nat))).drew) := by
                          show Srt _ _ _ _ _ _ _ _
                          rw [← hx8, ← hy8]
                          subst hi8
                          subst hj8
                          exact (w9S.out.swap (by omega) (by omega)).drewN 1
                        rw [hx8] at c18
                        rw [hy8] at c28
                        clear hx8 hy8 hi8 hj8
                        go_wp2_with fail
                        go_region
                        clear c18 c28 c38 f18 f28
                        generalize ((w9.setCell ⟨blk, off + i8, none⟩ (.int .i64 (y8 : Nat))).setCell ⟨blk, off + j8, none⟩ (.int .i64 (x8 : Nat))).drew = w10 at w10S ⊢
                        clear eai8 pai8 bai8 rai8 eaj8 paj8 baj8 raj8
                        clear p6
                        go_wp2_with fail
                        go_roundg (b - (jp + 1))
                        case measure => omega
                        case rel => exact ⟨jp + 1, _, by go_num, by omega, by omega, Nat.le_refl _, w10S, Lib.hid (SHJ.out.trans (shuf_swp _ ⟨by omega, by omega⟩ ⟨by omega, by omega⟩)), Lib.hid (sorted_swp SOJ.out (by omega) (by omega))⟩
                      · have HLT := Lib.hid hl
                        clear hl
                        obtain ⟨i9, hi9⟩ : ∃ q : Nat, q = jp + 1 := ⟨_, rfl⟩
                        have eai9 : ((jp : Int) + 1).toNat = i9 := by omega
                        have pai9 : (0 : Int) ≤ (jp : Int) + 1 := by omega
                        have bai9 : (jp : Int) + 1 < (n : Int) := by omega
                        have rai9 : IntKind.i64.wrap ((jp : Int) + 1) = (jp : Int) + 1 := by rw [IntKind.wrap_i64]; omega
                        obtain ⟨j9, hj9⟩ : ∃ q : Nat, q = jp := ⟨_, rfl⟩
                        have eaj9 : ((jp : Int)).toNat = j9 := by omega
                        have paj9 : (0 : Int) ≤ (jp : Int) := by omega
                        have baj9 : (jp : Int) < (n : Int) := by omega
                        have raj9 : IntKind.i64.wrap ((jp : Int)) = (jp : Int) := by rw [IntKind.wrap_i64]; omega
                        obtain ⟨x9, hx9⟩ : ∃ x, Dj (i9) = x := ⟨_, rfl⟩
                        obtain ⟨y9, hy9⟩ : ∃ y, Dj (j9) = y := ⟨_, rfl⟩
                        obtain ⟨c19, f19⟩ := SJ.out.row i9 (by omega)
                        obtain ⟨c29, f29⟩ := SJ.out.row j9 (by omega)
                        have hxM9 : x9 < M := by rw [← hx9]; exact SJ.out.ky.el _ (by omega)
                        have hyM9 : y9 < M := by rw [← hy9]; exact SJ.out.ky.el _ (by omega)
                        rw [hx9] at c19
                        rw [hy9] at c29
                        have HCL9 := Lib.hid (fun q => HC.out (wr.drewN q) x9 y9 (SJ.out.on.drewN q) hxM9 hyM9)
                        have hz9 : decide (cmpK K x9 y9 < 0) = false := by
                          rw [← hx9, ← hy9, hi9, hj9]
                          exact decide_eq_false (fun h => HLT.out (cmpK_lt.1 h))
                        clear hx9 hy9 hxM9 hyM9 hi9 hj9
                        generalize cmpK K x9 y9 = z9 at hz9 HCL9
                        go_wp2_with fail
                        go_quiet ((go_at_fn 34; exact Calls.quiet_of (HCL9.out _)))
                        have w9S := Lib.hid (SJ.out.drewN nq)
                        clear c19 c29 f19 f29 HCL9
                        generalize wr.drewN nq = w9 at w9S ⊢
                        clear nq
                        clear eai9 pai9 bai9 rai9 eaj9 paj9 baj9 raj9
                        clear p6
                        go_wp2_with fail
                        go_roundg (5 - (c + 1))
                        case measure => omega
                        case rel => exact ⟨ip + 1, c + 1, _, by go_num, by go_num, by omega, by omega, by omega, Nat.le_refl _, w9S, Lib.hid (SH8.out.trans SHJ.out), SOJ⟩
                    · have hd : ¬ (jp : Int) + 1 < (b : Int) := by omega
                      go_wp2_with fail
                      go_roundg (5 - (c + 1))
                      case measure => omega
                      case rel => exact ⟨ip + 1, c + 1, _, by go_num, by go_num, by omega, by omega, by omega, Nat.le_refl _, SJ, Lib.hid (SH8.out.trans SHJ.out), SOJ⟩
                · go_wp2_with fail
                  go_roundg (5 - (c + 1))
                  case measure => omega
                  case rel => exact ⟨ip + 1, c + 1, _, by go_num, by go_num, by omega, by omega, by omega, Nat.le_refl _, S8, SH8, SO8⟩
            · have SO8 : Hid (SortedK K a (ip + 1) D2) := Lib.hid (fun p q h1 h2 h3 => by omega)
              have SH8 := SH2
              have S8 := w5S
              obtain ⟨D3, hD3⟩ : ∃ D3, D2 = D3 := ⟨_, rfl⟩
              rw [hD3] at SO8 SH8 S8
              clear hD3 SH2 w5S SP L2 p6
              by_cases hr : (2 : Int) ≤ (b : Int) - ((ip : Int) + 1)
              · go_wp2_with fail
                go_loopg [12] b (fun g s12 wr => ∃ (jp : Nat) (Dj : Nat → Nat), s12 = .int .i64 ((jp : Int) + 1) ∧ ip + 1 ≤ jp ∧ jp ≤ b ∧ b - jp ≤ g ∧ Hid (Srt w0 blk off n K M Dj wr) ∧ Hid (Shuf a b D3 Dj) ∧ Hid (SortedK K a (ip + 1) Dj))
                case atStart => exact ⟨ip + 1, D3, by go_num, Nat.le_refl _, by omega, by omega, S8, Lib.hid (Shuf.refl _ _ _), SO8⟩
                case round =>
                  clear S8 SO8
                  obtain ⟨jp, Dj, rfl, hpi, hpb, hg2, SJ, SHJ, SOJ⟩ := hrel
                  by_cases hjb : jp + 1 < b
                  · have hd : (jp : Int) + 1 < (b : Int) := by omega
                    have p6 : IntKind.i64.wrap (jp : Int) = jp := by rw [IntKind.wrap_i64]; omega
                    by_cases hl : K (Dj (jp + 1)) < K (Dj jp)
                    · have HLT := Lib.hid hl
                      clear hl
                      obtain ⟨i10, hi10⟩ : ∃ q : Nat, q = jp + 1 := ⟨_, rfl⟩
                      have eai10 : ((jp : Int) + 1).toNat = i10 := by omega
                      have pai10 : (0 : Int) ≤ (jp : Int) + 1 := by omega
                      have bai10 : (jp : Int) + 1 < (n : Int) := by omega
                      have rai10 : IntKind.i64.wrap ((jp : Int) + 1) = (jp : Int) + 1 := by rw [IntKind.wrap_i64]; omega
                      obtain ⟨j10, hj10⟩ : ∃ q : Nat, q = jp := ⟨_, rfl⟩
                      have eaj10 : ((jp : Int)).toNat = j10 := by omega
                      have paj10 : (0 : Int) ≤ (jp : Int) := by omega
                      have baj10 : (jp : Int) < (n : Int) := by omega
                      have raj10 : IntKind.i64.wrap ((jp : Int)) = (jp : Int) := by rw [IntKind.wrap_i64]; omega
                      obtain ⟨x10, hx10⟩ : ∃ x, Dj (i10) = x := ⟨_, rfl⟩
                      obtain ⟨y10, hy10⟩ : ∃ y, Dj (j10) = y := ⟨_, rfl⟩
                      obtain ⟨c110, f110⟩ := SJ.out.row i10 (by omega)
                      obtain ⟨c210, f210⟩ := SJ.out.row j10 (by omega)
                      have hxM10 : x10 < M := by rw [← hx10]; exact SJ.out.ky.el _ (by omega)
                      have hyM10 : y10 < M := by rw [← hy10]; exact SJ.out.ky.el _ (by omega)
                      rw [hx10] at c110
                      rw [hy10] at c210
                      have HCL10 := Lib.hid (fun q => HC.out (wr.drewN q) x10 y10 (SJ.out.on.drewN q) hxM10 hyM10)
                      have hz10 : decide (cmpK K x10 y10 < 0) = true := by
                        rw [← hx10, ← hy10, hi10, hj10]
                        exact decide_eq_true (cmpK_lt.2 HLT.out)
                      clear hx10 hy10 hxM10 hyM10 hi10 hj10
                      generalize cmpK K x10 y10 = z10 at hz10 HCL10
                      go_wp2_with fail
                      go_quiet ((go_at_fn 34; exact Calls.quiet_of (HCL10.out _)))
                      have w9S := Lib.hid (SJ.out.drewN nq)
                      clear c110 c210 f110 f210 HCL10
                      generalize wr.drewN nq = w9 at w9S ⊢
                      clear nq
                      clear eai10 pai10 bai10 rai10 eaj10 paj10 baj10 raj10
                      go_wp2_with fail
                      obtain ⟨i11, hi11⟩ : ∃ q : Nat, q = jp + 1 := ⟨_, rfl⟩
                      have eai11 : ((jp : Int) + 1).toNat = i11 := by omega
                      have pai11 : (0 : Int) ≤ (jp : Int) + 1 := by omega
                      have bai11 : (jp : Int) + 1 < (n : Int) := by omega
                      have rai11 : IntKind.i64.wrap ((jp : Int) + 1) = (jp : Int) + 1 := by rw [IntKind.wrap_i64]; omega
                      obtain ⟨j11, hj11⟩ : ∃ q : Nat, q = jp := ⟨_, rfl⟩
                      have eaj11 : ((jp : Int)).toNat = j11 := by omega
                      have paj11 : (0 : Int) ≤ (jp : Int) := by omega
                      have baj11 : (jp : Int) < (n : Int) := by omega
                      have raj11 : IntKind.i64.wrap ((jp : Int)) = (jp : Int) := by rw [IntKind.wrap_i64]; omega
                      obtain ⟨x11, hx11⟩ : ∃ x, Dj (i11) = x := ⟨_, rfl⟩
                      obtain ⟨y11, hy11⟩ : ∃ y, Dj (j11) = y := ⟨_, rfl⟩
                      obtain ⟨c111, f111⟩ := w9S.out.row i11 (by omega)
                      obtain ⟨c211, f211⟩ := w9S.out.row j11 (by omega)
                      obtain ⟨u11, c311⟩ := w9S.out.second (i := i11) (j := j11) (by omega) (by omega) (.int .i64 (y11 : Nat))
                      have w10S : Hid (Srt w0 blk off n K M (swp Dj (jp + 1) (jp)) ((w9.setCell ⟨blk, off + i11, none⟩ (.int .i64 (y11 : Nat))).setCell ⟨blk, off + j11, none⟩ (.int .i64 (x11 : Nat))).drew) := by
                        show Srt _ _ _ _ _ _ _ _
                        rw [← hx11, ← hy11]
                        subst hi11
                        subst hj11
                        exact (w9S.out.swap (by omega) (by omega)).drewN 1
                      rw [hx11] at c111
                      rw [hy11] at c211
                      clear hx11 hy11 hi11 hj11
                      go_wp2_with fail
                      go_region
                      clear c111 c211 c311 f111 f211
                      generalize ((w9.setCell ⟨blk, off + i11, none⟩ (.int .i64 (y11 : Nat))).setCell ⟨blk, off + j11, none⟩ (.int .i64 (x11 : Nat))).drew = w10 at w10S ⊢
                      clear eai11 pai11 bai11 rai11 eaj11 paj11 baj11 raj11
                      clear p6
                      go_wp2_with fail
                      go_roundg (b - (jp + 1))
                      case measure => omega
                      case rel => exact ⟨jp + 1, _, by go_num, by omega, by omega, Nat.le_refl _, w10S, Lib.hid (SHJ.out.trans (shuf_swp _ ⟨by omega, by omega⟩ ⟨by omega, by omega⟩)), Lib.hid (sorted_swp SOJ.out (by omega) (by omega))⟩
                    · have HLT := Lib.hid hl
                      clear hl
                      obtain ⟨i12, hi12⟩ : ∃ q : Nat, q = jp + 1 := ⟨_, rfl⟩
                      have eai12 : ((jp : Int) + 1).toNat = i12 := by omega
                      have pai12 : (0 : Int) ≤ (jp : Int) + 1 := by omega
                      have bai12 : (jp : Int) + 1 < (n : Int) := by omega
                      have rai12 : IntKind.i64.wrap ((jp : Int) + 1) = (jp : Int) + 1 := by rw [IntKind.wrap_i64]; omega
                      obtain ⟨j12, hj12⟩ : ∃ q : Nat, q = jp := ⟨_, rfl⟩
                      have eaj12 : ((jp : Int)).toNat = j12 := by omega
                      have paj12 : (0 : Int) ≤ (jp : Int) := by omega
                      have baj12 : (jp : Int) < (n : Int) := by omega
                      have raj12 : IntKind.i64.wrap ((jp : Int)) = (jp : Int) := by rw [IntKind.wrap_i64]; omega
                      obtain ⟨x12, hx12⟩ : ∃ x, Dj (i12) = x := ⟨_, rfl⟩
                      obtain ⟨y12, hy12⟩ : ∃ y, Dj (j12) = y := ⟨_, rfl⟩
                      obtain ⟨c112, f112⟩ := SJ.out.row i12 (by omega)
                      obtain ⟨c212, f212⟩ := SJ.out.row j12 (by omega)
                      have hxM12 : x12 < M := by rw [← hx12]; exact SJ.out.ky.el _ (by omega)
                      have hyM12 : y12 < M := by rw [← hy12]; exact SJ.out.ky.el _ (by omega)
                      rw [hx12] at c112
                      rw [hy12] at c212
                      have HCL12 := Lib.hid (fun q => HC.out (wr.drewN q) x12 y12 (SJ.out.on.drewN q) hxM12 hyM12)
                      have hz12 : decide (cmpK K x12 y12 < 0) = false := by
                        rw [← hx12, ← hy12, hi12, hj12]
                        exact decide_eq_false (fun h => HLT.out (cmpK_lt.1 h))
                      clear hx12 hy12 hxM12 hyM12 hi12 hj12
                      generalize cmpK K x12 y12 = z12 at hz12 HCL12
                      go_wp2_with fail
                      go_quiet ((go_at_fn 34; exact Calls.quiet_of (HCL12.out _)))
                      have w9S := Lib.hid (SJ.out.drewN nq)
                      clear c112 c212 f112 f212 HCL12
                      generalize wr.drewN nq = w9 at w9S ⊢
                      clear nq
                      clear eai12 pai12 bai12 rai12 eaj12 paj12 baj12 raj12
                      clear p6
                      go_wp2_with fail
                      go_roundg (5 - (c + 1))
                      case measure => omega
                      case rel => exact ⟨ip + 1, c + 1, _, by go_num, by go_num, by omega, by omega, by omega, Nat.le_refl _, w9S, Lib.hid (SH8.out.trans SHJ.out), SOJ⟩
                  · have hd : ¬ (jp : Int) + 1 < (b : Int) := by omega
                    go_wp2_with fail
                    go_roundg (5 - (c + 1))
                    case measure => omega
                    case rel => exact ⟨ip + 1, c + 1, _, by go_num, by go_num, by omega, by omega, by omega, Nat.le_refl _, SJ, Lib.hid (SH8.out.trans SHJ.out), SOJ⟩
              · go_wp2_with fail
                go_roundg (5 - (c + 1))
                case measure => omega
                case rel => exact ⟨ip + 1, c + 1, _, by go_num, by go_num, by omega, by omega, by omega, Nat.le_refl _, S8, SH8, SO8⟩
    · have hcz : ¬ (c : Int) < 5 := by omega
      go_wp2_with fail
      go_ret
      exact ⟨false, Di, rfl, S1.out, SH.out, fun h => by simp at h⟩
end Go.Proofs.Ytgfjfpfhalblgaa
