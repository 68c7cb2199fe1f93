/- What slices' partitionCmpFunc does, with a method as the comparison. -/
import Derived.Test.YtgfjfpfhalblgaaHSa
import Derived.Deep.DeepCutAuto
import Derived.Deep.CutBlock
namespace Go.Proofs.Ytgfjfpfhalblgaa
set_option maxRecDepth 1000000
open Go.ChangeShapes Go.WideShapes Go.ChangeAt Go.RowKit

def LowK (K : Nat → Int) (a i : Nat) (D : Nat → Nat) : Prop := ∀ q, a < q → q < i → K (D q) < K (D a)
def HighK (K : Nat → Int) (a j b : Nat) (D : Nat → Nat) : Prop := ∀ q, j < q → q < b → K (D a) < K (D q)
theorem low_next {K : Nat → Int} {a i : Nat} {D : Nat → Nat} (h : LowK K a i D) (hl : K (D i) < K (D a)) : LowK K a (i + 1) D := fun q h1 h2 => by
  by_cases e : q = i
  · rw [e]; exact hl
  · exact h q h1 (by omega)
theorem high_next {K : Nat → Int} {a j b : Nat} {D : Nat → Nat} (h : HighK K a (j + 1) b D) (hl : K (D a) < K (D (j + 1))) : HighK K a j b D := fun q h1 h2 => by
  by_cases e : q = j + 1
  · rw [e]; exact hl
  · exact h q (by omega) h2
theorem low_swp {K : Nat → Int} {a i j : Nat} {D : Nat → Nat} (h : LowK K a i D) (ha : a < i) (hij : i < j) (hl : K (D j) < K (D a)) : LowK K a (i + 1) (swp D i j) := fun q h1 h2 => by
  rw [swp_o D (k := a) (by omega) (by omega)]
  by_cases e : q = i
  · rw [e, swp_i]; exact hl
  · rw [swp_o D e (by omega)]; exact h q h1 (by omega)
theorem high_swp {K : Nat → Int} {a i j b : Nat} {D : Nat → Nat} (h : HighK K a (j + 1) b D) (ha : a < i) (hij : i < j + 1) (hl : K (D a) < K (D i)) : HighK K a j b (swp D i (j + 1)) := fun q h1 h2 => by
  rw [swp_o D (k := a) (by omega) (by omega)]
  by_cases e : q = j + 1
  · rw [e, swp_j]; exact hl
  · rw [swp_o D (by omega) e]; exact h q (by omega) h2
/-- The row is parted at its place m. -/
def PartK (K : Nat → Int) (a b m : Nat) (D : Nat → Nat) : Prop := (∀ q, a ≤ q → q < m → K (D q) < K (D m)) ∧ ∀ q, m < q → q < b → K (D m) < K (D q)
theorem part_end {K : Nat → Int} {a j b : Nat} {D : Nat → Nat} (h1 : LowK K a (j + 1) D) (h2 : HighK K a j b D) (ha : a ≤ j) : PartK K a b j (swp D j a) := by
  refine ⟨fun q g1 g2 => ?_, fun q g1 g2 => ?_⟩
  · rw [swp_i]
    by_cases e : q = a
    · subst e; rw [swp_j]; exact h1 j (by omega) (by omega)
    · rw [swp_o D (by omega) e]; exact h1 q (by omega) (by omega)
  · rw [swp_i, swp_o D (by omega) (by omega)]; exact h2 q g1 g2
/-- What partition leaves. -/
def PartPost (w0 : World) (blk off n : Nat) (K : Nat → Int) (M a b : Nat) (D : Nat → Nat) (e : Ending) (w' : World) : Prop :=
  ∃ (m : Nat) (fl : Bool) (D' : Nat → Nat), e = .returned (.tuple #[.int .i64 m, .bool fl]) ∧ a ≤ m ∧ m < b ∧ Srt w0 blk off n K M D' w' ∧ Shuf a b D D' ∧ PartK K a b m D'
/-- Behind the loop that raises i, and the one that lowers j. -/
def UpRel (w0 : World) (blk off n : Nat) (K : Nat → Int) (M a i0 j : Nat) (D : Nat → Nat) (s : Value) (wx : World) : Prop :=
  ∃ i : Nat, s = .int .i64 i ∧ a < i ∧ i ≤ j + 1 ∧ i0 ≤ i ∧ Hid (Srt w0 blk off n K M D wx) ∧ Hid (LowK K a i D) ∧ Hid (i ≤ j → K (D a) < K (D i))
def DownRel (w0 : World) (blk off n : Nat) (K : Nat → Int) (M a b i j0 : Nat) (D : Nat → Nat) (s : Value) (wx : World) : Prop :=
  ∃ j : Nat, s = .int .i64 j ∧ a ≤ j ∧ i ≤ j + 1 ∧ j < b ∧ j ≤ j0 ∧ Hid (Srt w0 blk off n K M D wx) ∧ Hid (HighK K a j b D) ∧ Hid (i ≤ j → K (D j) < K (D a))
set_option maxHeartbeats 16000000 in
theorem partition_any (w0 : World) (blk off n cap M a b pv : Nat) (K : Nat → Int) (hp : Value) (D : Nat → Nat) (w : World) (hC : CmpOk w0 blk K M hp) (h : Srt w0 blk off n K M D w) (hpa : a ≤ pv) (hpb : pv < b) (hb : b ≤ n) (hn : n ≤ 1000000000) :
    Calls Try.prog 45 #[.slice (some ⟨blk, off, none⟩) n cap, .int .i64 a, .int .i64 b, .int .i64 pv, .func (.func 34) #[hp] #[]] w (PartPost w0 blk off n K M a b D) := by
  have HC := Lib.hid hC
  have S0 := Lib.hid h
  have eg := eg34
  obtain ⟨bp, hbpL, hbpR⟩ : ∃ q, q + 1 ≤ b ∧ b ≤ q + 1 := ⟨b - 1, by omega, by omega⟩
  have pb1 : IntKind.i64.wrap ((b : Int) - 1) = bp := by rw [IntKind.wrap_i64]; omega
  clear h hC
  go_enter Try.func45, Try.ntmps45
  go_wp2_with fail
  obtain ⟨i1, hi1⟩ : ∃ q : Nat, q = a := ⟨_, rfl⟩
  have eai1 : ((a : Int)).toNat = i1 := by omega
  have pai1 : (0 : Int) ≤ (a : Int) := by omega
  have bai1 : (a : Int) < (n : Int) := by omega
  have rai1 : IntKind.i64.wrap ((a : Int)) = (a : Int) := by rw [IntKind.wrap_i64]; omega
  obtain ⟨j1, hj1⟩ : ∃ q : Nat, q = pv := ⟨_, rfl⟩
  have eaj1 : ((pv : Int)).toNat = j1 := by omega
  have paj1 : (0 : Int) ≤ (pv : Int) := by omega
  have baj1 : (pv : Int) < (n : Int) := by omega
  have raj1 : IntKind.i64.wrap ((pv : Int)) = (pv : Int) := by rw [IntKind.wrap_i64]; omega
  obtain ⟨x1, hx1⟩ : ∃ x, D (i1) = x := ⟨_, rfl⟩
  obtain ⟨y1, hy1⟩ : ∃ y, D (j1) = y := ⟨_, rfl⟩
  obtain ⟨c11, f11⟩ := S0.out.row i1 (by omega)
  obtain ⟨c21, f21⟩ := S0.out.row j1 (by omega)
  obtain ⟨u1, c31⟩ := S0.out.second (i := i1) (j := j1) (by omega) (by omega) (.int .i64 (y1 : Nat))
  have w1S : Hid (Srt w0 blk off n K M (swp D (a) (pv)) ((w.setCell ⟨blk, off + i1, none⟩ (.int .i64 (y1 : Nat))).setCell ⟨blk, off + j1, none⟩ (.int .i64 (x1 : Nat))).drew) := by
    show Srt _ _ _ _ _ _ _ _
    rw [← hx1, ← hy1]
    subst hi1
    subst hj1
    exact (S0.out.swap (by omega) (by omega)).drewN 1
  rw [hx1] at c11
  rw [hy1] at c21
  clear hx1 hy1 hi1 hj1
  go_wp2_with fail
  go_region
  clear c11 c21 c31 f11 f21
  generalize ((w.setCell ⟨blk, off + i1, none⟩ (.int .i64 (y1 : Nat))).setCell ⟨blk, off + j1, none⟩ (.int .i64 (x1 : Nat))).drew = w1 at w1S ⊢
  clear eai1 pai1 bai1 rai1 eaj1 paj1 baj1 raj1
  have SH1 : Hid (Shuf a b D (swp D a pv)) := shuf_swp _ ⟨by omega, by omega⟩ ⟨hpa, hpb⟩
  obtain ⟨D1, hD1⟩ : ∃ D1, swp D a pv = D1 := ⟨_, rfl⟩
  rw [hD1] at SH1 w1S
  clear hD1 S0
  go_upto_block 0 with fail
  clear pb1
  go_cut [12] (fun s12 wx => UpRel w0 blk off n K M a (a + 1) (bp) D1 s12 wx)
  case first =>
    go_wp2_with fail
    go_loopg [12] (bp + 1) (fun g s12 wr => ∃ ix : Nat, s12 = .int .i64 ix ∧ a < ix ∧ ix ≤ bp + 1 ∧ a + 1 ≤ ix ∧ bp + 1 - ix ≤ g ∧ Hid (Srt w0 blk off n K M D1 wr) ∧ Hid (LowK K a ix D1))
    case atStart => exact ⟨a + 1, by first | rfl | go_num, by omega, by omega, Nat.le_refl _, by omega, w1S, Lib.hid (fun q h1 h2 => by omega)⟩
    case round =>
      obtain ⟨ix, rfl, hax, hxj, hxi, hg, S1, LO⟩ := hrel
      by_cases hlt : ix ≤ bp
      · have hd : decide ((ix : Int) ≤ (bp : Int)) = true := decide_eq_true (by omega)
        by_cases hl : K (D1 ix) < K (D1 a)
        · have HLT := Lib.hid hl
          clear hl
          obtain ⟨i2, hi2⟩ : ∃ q : Nat, q = ix := ⟨_, rfl⟩
          have eai2 : ((ix : Int)).toNat = i2 := by omega
          have pai2 : (0 : Int) ≤ (ix : Int) := by omega
          have bai2 : (ix : Int) < (n : Int) := by omega
          have rai2 : IntKind.i64.wrap ((ix : Int)) = (ix : Int) := by rw [IntKind.wrap_i64]; omega
          obtain ⟨j2, hj2⟩ : ∃ q : Nat, q = a := ⟨_, rfl⟩
          have eaj2 : ((a : Int)).toNat = j2 := by omega
          have paj2 : (0 : Int) ≤ (a : Int) := by omega
          have baj2 : (a : Int) < (n : Int) := by omega
          have raj2 : IntKind.i64.wrap ((a : Int)) = (a : Int) := by rw [IntKind.wrap_i64]; omega
          obtain ⟨x2, hx2⟩ : ∃ x, D1 (i2) = x := ⟨_, rfl⟩
          obtain ⟨y2, hy2⟩ : ∃ y, D1 (j2) = y := ⟨_, rfl⟩
          obtain ⟨c12, f12⟩ := S1.out.row i2 (by omega)
          obtain ⟨c22, f22⟩ := S1.out.row j2 (by omega)
          have hxM2 : x2 < M := by rw [← hx2]; exact S1.out.ky.el _ (by omega)
          have hyM2 : y2 < M := by rw [← hy2]; exact S1.out.ky.el _ (by omega)
          rw [hx2] at c12
          rw [hy2] at c22
          have HCL2 := Lib.hid (fun q => HC.out (wr.drewN q) x2 y2 (S1.out.on.drewN q) hxM2 hyM2)
          have hz2 : decide (cmpK K x2 y2 < 0) = true := by
            rw [← hx2, ← hy2, hi2, hj2]
            exact decide_eq_true (cmpK_lt.2 HLT.out)
          clear hx2 hy2 hxM2 hyM2 hi2 hj2
          generalize cmpK K x2 y2 = z2 at hz2 HCL2
          go_wp2_with fail
          go_quiet ((go_at_fn 34; exact Calls.quiet_of (HCL2.out _)))
          have w2S := Lib.hid (S1.out.drewN nq)
          clear c12 c22 f12 f22 HCL2
          generalize wr.drewN nq = w2 at w2S ⊢
          clear nq
          clear eai2 pai2 bai2 rai2 eaj2 paj2 baj2 raj2
          go_wp2_with fail
          go_roundg (bp + 1 - (ix + 1))
          case measure => omega
          case rel => exact ⟨ix + 1, by go_num, by omega, by omega, by omega, Nat.le_refl _, w2S, Lib.hid (low_next LO.out HLT.out)⟩
        · have HLT := Lib.hid hl
          clear hl
          obtain ⟨i3, hi3⟩ : ∃ q : Nat, q = ix := ⟨_, rfl⟩
          have eai3 : ((ix : Int)).toNat = i3 := by omega
          have pai3 : (0 : Int) ≤ (ix : Int) := by omega
          have bai3 : (ix : Int) < (n : Int) := by omega
          have rai3 : IntKind.i64.wrap ((ix : Int)) = (ix : Int) := by rw [IntKind.wrap_i64]; omega
          obtain ⟨j3, hj3⟩ : ∃ q : Nat, q = a := ⟨_, rfl⟩
          have eaj3 : ((a : Int)).toNat = j3 := by omega
          have paj3 : (0 : Int) ≤ (a : Int) := by omega
          have baj3 : (a : Int) < (n : Int) := by omega
          have raj3 : IntKind.i64.wrap ((a : Int)) = (a : Int) := by rw [IntKind.wrap_i64]; omega
          obtain ⟨x3, hx3⟩ : ∃ x, D1 (i3) = x := ⟨_, rfl⟩
          obtain ⟨y3, hy3⟩ : ∃ y, D1 (j3) = y := ⟨_, rfl⟩
          obtain ⟨c13, f13⟩ := S1.out.row i3 (by omega)
          obtain ⟨c23, f23⟩ := S1.out.row j3 (by omega)
          have hxM3 : x3 < M := by rw [← hx3]; exact S1.out.ky.el _ (by omega)
          have hyM3 : y3 < M := by rw [← hy3]; exact S1.out.ky.el _ (by omega)
          rw [hx3] at c13
          rw [hy3] at c23
          have HCL3 := Lib.hid (fun q => HC.out (wr.drewN q) x3 y3 (S1.out.on.drewN q) hxM3 hyM3)
          have hz3 : decide (cmpK K x3 y3 < 0) = false := by
            rw [← hx3, ← hy3, hi3, hj3]
            exact decide_eq_false (fun h => HLT.out (cmpK_lt.1 h))
          clear hx3 hy3 hxM3 hyM3 hi3 hj3
          generalize cmpK K x3 y3 = z3 at hz3 HCL3
          go_wp2_with fail
          go_quiet ((go_at_fn 34; exact Calls.quiet_of (HCL3.out _)))
          have w2S := Lib.hid (S1.out.drewN nq)
          clear c13 c23 f13 f23 HCL3
          generalize wr.drewN nq = w2 at w2S ⊢
          clear nq
          clear eai3 pai3 bai3 rai3 eaj3 paj3 baj3 raj3
          go_wp2_with fail
          go_meet
          case rel => exact ⟨ix, rfl, hax, hxj, hxi, w2S, LO, Lib.hid (fun _ => by
            have h1 := w2S.out.ky.inj a ix (by omega) (by omega) (by omega)
            have h2 := HLT.out
            omega)⟩
      · have hd : decide ((ix : Int) ≤ (bp : Int)) = false := decide_eq_false (by omega)
        go_wp2_with fail
        go_quiet (fail)
        have w2S := Lib.hid (S1.out.drewN nq)
        generalize wr.drewN nq = w2 at w2S ⊢
        clear nq
        go_wp2_with fail
        go_meet
        case rel => exact ⟨ix, rfl, hax, hxj, hxi, w2S, LO, Lib.hid (fun h => by omega)⟩
  case rest =>
    obtain ⟨i, rfl, hai, hij, _, S2, LO2, UP2⟩ := hcut
    clear w1S
    go_upto_block 2 with fail
    go_cut [13] (fun s13 wx => DownRel w0 blk off n K M a b (i) (bp) D1 s13 wx)
    case first =>
      go_wp2_with fail
      go_loopg [13] b (fun g s13 wr => ∃ jx : Nat, s13 = .int .i64 jx ∧ a ≤ jx ∧ i ≤ jx + 1 ∧ jx < b ∧ jx ≤ bp ∧ jx ≤ g ∧ Hid (Srt w0 blk off n K M D1 wr) ∧ Hid (HighK K a jx b D1))
      case atStart => exact ⟨bp, by first | rfl | go_num, by omega, by omega, by omega, Nat.le_refl _, by omega, S2, Lib.hid (fun q h1 h2 => by omega)⟩
      case round =>
        obtain ⟨jx, rfl, hax, hix, hxb, hx0, hg, S1, HI⟩ := hrel
        by_cases hlt : i ≤ jx
        · have hd : decide ((i : Int) ≤ (jx : Int)) = true := decide_eq_true (by omega)
          by_cases hl : K (D1 jx) < K (D1 a)
          · have HLT := Lib.hid hl
            clear hl
            obtain ⟨i4, hi4⟩ : ∃ q : Nat, q = jx := ⟨_, rfl⟩
            have eai4 : ((jx : Int)).toNat = i4 := by omega
            have pai4 : (0 : Int) ≤ (jx : Int) := by omega
            have bai4 : (jx : Int) < (n : Int) := by omega
            have rai4 : IntKind.i64.wrap ((jx : Int)) = (jx : Int) := by rw [IntKind.wrap_i64]; omega
            obtain ⟨j4, hj4⟩ : ∃ q : Nat, q = a := ⟨_, rfl⟩
            have eaj4 : ((a : Int)).toNat = j4 := by omega
            have paj4 : (0 : Int) ≤ (a : Int) := by omega
            have baj4 : (a : Int) < (n : Int) := by omega
            have raj4 : IntKind.i64.wrap ((a : Int)) = (a : Int) := by rw [IntKind.wrap_i64]; omega
            obtain ⟨x4, hx4⟩ : ∃ x, D1 (i4) = x := ⟨_, rfl⟩
            obtain ⟨y4, hy4⟩ : ∃ y, D1 (j4) = y := ⟨_, rfl⟩
            obtain ⟨c14, f14⟩ := S1.out.row i4 (by omega)
            obtain ⟨c24, f24⟩ := S1.out.row j4 (by omega)
            have hxM4 : x4 < M := by rw [← hx4]; exact S1.out.ky.el _ (by omega)
            have hyM4 : y4 < M := by rw [← hy4]; exact S1.out.ky.el _ (by omega)
            rw [hx4] at c14
            rw [hy4] at c24
            have HCL4 := Lib.hid (fun q => HC.out (wr.drewN q) x4 y4 (S1.out.on.drewN q) hxM4 hyM4)
            have hz4 : decide (cmpK K x4 y4 < 0) = true := by
              rw [← hx4, ← hy4, hi4, hj4]
              exact decide_eq_true (cmpK_lt.2 HLT.out)
            clear hx4 hy4 hxM4 hyM4 hi4 hj4
            generalize cmpK K x4 y4 = z4 at hz4 HCL4
            go_wp2_with fail
            go_quiet ((go_at_fn 34; exact Calls.quiet_of (HCL4.out _)))
            have w2S := Lib.hid (S1.out.drewN nq)
            clear c14 c24 f14 f24 HCL4
            generalize wr.drewN nq = w2 at w2S ⊢
            clear nq
            clear eai4 pai4 bai4 rai4 eaj4 paj4 baj4 raj4
            go_wp2_with fail
            go_meet
            case rel => exact ⟨jx, rfl, hax, hix, hxb, hx0, w2S, HI, Lib.hid (fun _ => HLT.out)⟩
          · have HLT := Lib.hid hl
            clear hl
            obtain ⟨i5, hi5⟩ : ∃ q : Nat, q = jx := ⟨_, rfl⟩
            have eai5 : ((jx : Int)).toNat = i5 := by omega
            have pai5 : (0 : Int) ≤ (jx : Int) := by omega
            have bai5 : (jx : Int) < (n : Int) := by omega
            have rai5 : IntKind.i64.wrap ((jx : Int)) = (jx : Int) := by rw [IntKind.wrap_i64]; omega
            obtain ⟨j5, hj5⟩ : ∃ q : Nat, q = a := ⟨_, rfl⟩
            have eaj5 : ((a : Int)).toNat = j5 := by omega
            have paj5 : (0 : Int) ≤ (a : Int) := by omega
            have baj5 : (a : Int) < (n : Int) := by omega
            have raj5 : IntKind.i64.wrap ((a : Int)) = (a : Int) := by rw [IntKind.wrap_i64]; omega
            obtain ⟨x5, hx5⟩ : ∃ x, D1 (i5) = x := ⟨_, rfl⟩
            obtain ⟨y5, hy5⟩ : ∃ y, D1 (j5) = y := ⟨_, rfl⟩
            obtain ⟨c15, f15⟩ := S1.out.row i5 (by omega)
            obtain ⟨c25, f25⟩ := S1.out.row j5 (by omega)
            have hxM5 : x5 < M := by rw [← hx5]; exact S1.out.ky.el _ (by omega)
            have hyM5 : y5 < M := by rw [← hy5]; exact S1.out.ky.el _ (by omega)
            rw [hx5] at c15
            rw [hy5] at c25
            have HCL5 := Lib.hid (fun q => HC.out (wr.drewN q) x5 y5 (S1.out.on.drewN q) hxM5 hyM5)
            have hz5 : decide (cmpK K x5 y5 < 0) = false := by
              rw [← hx5, ← hy5, hi5, hj5]
              exact decide_eq_false (fun h => HLT.out (cmpK_lt.1 h))
            clear hx5 hy5 hxM5 hyM5 hi5 hj5
            generalize cmpK K x5 y5 = z5 at hz5 HCL5
            go_wp2_with fail
            go_quiet ((go_at_fn 34; exact Calls.quiet_of (HCL5.out _)))
            have w2S := Lib.hid (S1.out.drewN nq)
            clear c15 c25 f15 f25 HCL5
            generalize wr.drewN nq = w2 at w2S ⊢
            clear nq
            clear eai5 pai5 bai5 rai5 eaj5 paj5 baj5 raj5
            obtain ⟨jp, rfl⟩ : ∃ q, jx = q + 1 := ⟨jx - 1, by omega⟩
            have HNL : Hid (K (D1 a) < K (D1 (jp + 1))) := by
              have h1 := w2S.out.ky.inj a (jp + 1) (by omega) (by omega) (by omega)
              have h2 := HLT.out
              show _ < _
              omega
            go_wp2_with fail
            go_roundg jp
            case measure => omega
            case rel => exact ⟨jp, by first | rfl | go_num, by omega, by omega, by omega, by omega, Nat.le_refl _, w2S, Lib.hid (high_next HI.out HNL.out)⟩
        · have hd : decide ((i : Int) ≤ (jx : Int)) = false := decide_eq_false (by omega)
          go_wp2_with fail
          go_quiet (fail)
          have w2S := Lib.hid (S1.out.drewN nq)
          generalize wr.drewN nq = w2 at w2S ⊢
          clear nq
          go_wp2_with fail
          go_meet
          case rel => exact ⟨jx, rfl, hax, hix, hxb, hx0, w2S, HI, Lib.hid (fun h => by omega)⟩
    case rest =>
      obtain ⟨j, rfl, haj, hij2, hjb, hj0, S3, HI3, DN3⟩ := hcut
      clear S2
      by_cases hgt : j < i
      · have hgt' : (j : Int) < i := by omega
        have hi1 : i = j + 1 := by omega
        have LO4 : Hid (LowK K a (j + 1) D1) := by have := LO2.out; rw [hi1] at this; exact this
        clear hi1
        go_wp2_with fail
        obtain ⟨i6, hi6⟩ : ∃ q : Nat, q = j := ⟨_, rfl⟩
        have eai6 : ((j : Int)).toNat = i6 := by omega
        have pai6 : (0 : Int) ≤ (j : Int) := by omega
        have bai6 : (j : Int) < (n : Int) := by omega
        have rai6 : IntKind.i64.wrap ((j : Int)) = (j : Int) := by rw [IntKind.wrap_i64]; omega
        obtain ⟨j6, hj6⟩ : ∃ q : Nat, q = a := ⟨_, rfl⟩
        have eaj6 : ((a : Int)).toNat = j6 := by omega
        have paj6 : (0 : Int) ≤ (a : Int) := by omega
        have baj6 : (a : Int) < (n : Int) := by omega
        have raj6 : IntKind.i64.wrap ((a : Int)) = (a : Int) := by rw [IntKind.wrap_i64]; omega
        obtain ⟨x6, hx6⟩ : ∃ x, D1 (i6) = x := ⟨_, rfl⟩
        obtain ⟨y6, hy6⟩ : ∃ y, D1 (j6) = y := ⟨_, rfl⟩
        obtain ⟨c16, f16⟩ := S3.out.row i6 (by omega)
        obtain ⟨c26, f26⟩ := S3.out.row j6 (by omega)
        obtain ⟨u6, c36⟩ := S3.out.second (i := i6) (j := j6) (by omega) (by omega) (.int .i64 (y6 : Nat))
        have w5S : Hid (Srt w0 blk off n K M (swp D1 (j) (a)) ((wc.setCell ⟨blk, off + i6, none⟩ (.int .i64 (y6 : Nat))).setCell ⟨blk, off + j6, none⟩ (.int .i64 (x6 : Nat))).drew) := by
          show Srt _ _ _ _ _ _ _ _
          rw [← hx6, ← hy6]
          subst hi6
          subst hj6
          exact (S3.out.swap (by omega) (by omega)).drewN 1
        rw [hx6] at c16
        rw [hy6] at c26
        clear hx6 hy6 hi6 hj6
        go_wp2_with fail
        go_region
        clear c16 c26 c36 f16 f26
        generalize ((wc.setCell ⟨blk, off + i6, none⟩ (.int .i64 (y6 : Nat))).setCell ⟨blk, off + j6, none⟩ (.int .i64 (x6 : Nat))).drew = w5 at w5S ⊢
        clear eai6 pai6 bai6 rai6 eaj6 paj6 baj6 raj6
        go_wp2_with fail
        go_ret2
        exact ⟨j, true, _, rfl, haj, hjb, w5S.out, SH1.out.trans (shuf_swp _ ⟨by omega, by omega⟩ ⟨by omega, by omega⟩), part_end LO4.out HI3.out haj⟩
      · have hgt' : ¬ (j : Int) < i := by omega
        have hne : i < j := by
          have h1 := UP2.out (by omega)
          have h2 := DN3.out (by omega)
          rcases Nat.lt_or_ge i j with h | h
          · exact h
          · have : i = j := by omega
            subst this; omega
        obtain ⟨jp, hjp⟩ : ∃ q, j = q + 1 := ⟨j - 1, by omega⟩
        subst hjp
        have p6 : IntKind.i64.wrap (jp : Int) = jp := by rw [IntKind.wrap_i64]; omega
        go_wp2_with fail
        obtain ⟨i7, hi7⟩ : ∃ q : Nat, q = i := ⟨_, rfl⟩
        have eai7 : ((i : Int)).toNat = i7 := by omega
        have pai7 : (0 : Int) ≤ (i : Int) := by omega
        have bai7 : (i : Int) < (n : Int) := by omega
        have rai7 : IntKind.i64.wrap ((i : Int)) = (i : Int) := by rw [IntKind.wrap_i64]; omega
        obtain ⟨j7, hj7⟩ : ∃ q : Nat, q = jp + 1 := ⟨_, rfl⟩
        have eaj7 : ((jp : Int) + 1).toNat = j7 := by omega
        have paj7 : (0 : Int) ≤ (jp : Int) + 1 := by omega
        have baj7 : (jp : Int) + 1 < (n : Int) := by omega
        have raj7 : IntKind.i64.wrap ((jp : Int) + 1) = (jp : Int) + 1 := by rw [IntKind.wrap_i64]; omega
        obtain ⟨x7, hx7⟩ : ∃ x, D1 (i7) = x := ⟨_, rfl⟩
        obtain ⟨y7, hy7⟩ : ∃ y, D1 (j7) = y := ⟨_, rfl⟩
        obtain ⟨c17, f17⟩ := S3.out.row i7 (by omega)
        obtain ⟨c27, f27⟩ := S3.out.row j7 (by omega)
        obtain ⟨u7, c37⟩ := S3.out.second (i := i7) (j := j7) (by omega) (by omega) (.int .i64 (y7 : Nat))
        have w5S : Hid (Srt w0 blk off n K M (swp D1 (i) (jp + 1)) ((wc.setCell ⟨blk, off + i7, none⟩ (.int .i64 (y7 : Nat))).setCell ⟨blk, off + j7, none⟩ (.int .i64 (x7 : Nat))).drew) := by
          show Srt _ _ _ _ _ _ _ _
          rw [← hx7, ← hy7]
          subst hi7
          subst hj7
          exact (S3.out.swap (by omega) (by omega)).drewN 1
        rw [hx7] at c17
        rw [hy7] at c27
        clear hx7 hy7 hi7 hj7
        go_wp2_with fail
        go_region
        clear c17 c27 c37 f17 f27
        generalize ((wc.setCell ⟨blk, off + i7, none⟩ (.int .i64 (y7 : Nat))).setCell ⟨blk, off + j7, none⟩ (.int .i64 (x7 : Nat))).drew = w5 at w5S ⊢
        clear eai7 pai7 bai7 rai7 eaj7 paj7 baj7 raj7
        have J5 : Hid (Shuf a b D (swp D1 i (jp + 1)) ∧ LowK K a (i + 1) (swp D1 i (jp + 1)) ∧ HighK K a jp b (swp D1 i (jp + 1))) :=
          ⟨SH1.out.trans (shuf_swp _ ⟨by omega, by omega⟩ ⟨by omega, by omega⟩), low_swp LO2.out hai hne (DN3.out (by omega)), high_swp HI3.out hai hne (UP2.out (by omega))⟩
        have hij5 : i + 1 ≤ jp + 1 := by omega
        have haj5 : a ≤ jp := by omega
        have hjb5 : jp < b := by omega
        clear p6 hgt hgt' hne DN3 UP2 S3 HI3 LO2 SH1
        generalize swp D1 i (jp + 1) = D2 at J5 w5S
        go_wp2_with fail
        go_loopg [12, 13] (2 * b) (fun g s12 s13 wr => ∃ (i j : Nat) (Dk : Nat → Nat), s12 = .int .i64 i ∧ s13 = .int .i64 j ∧ a < i ∧ i ≤ j + 1 ∧ a ≤ j ∧ j < b ∧ j + 1 - i ≤ g ∧ Hid (Srt w0 blk off n K M Dk wr) ∧ Hid (Shuf a b D Dk ∧ LowK K a i Dk ∧ HighK K a j b Dk))
        case atStart => exact ⟨i + 1, jp, D2, by go_num, by first | rfl | go_num, by omega, by omega, haj5, hjb5, by omega, w5S, J5⟩
        case round =>
          clear w5S J5 hij5 haj5 hjb5 hij2 haj hjb hij hai
          obtain ⟨i, j, Dk, rfl, rfl, hai, hij, haj, hjb, hg6, S6, J6⟩ := hrel
          have LO6 : Hid (LowK K a i Dk) := J6.out.2.1
          have HI6 : Hid (HighK K a j b Dk) := J6.out.2.2
          go_upto_block 6 with fail
          go_cut [12] from 105 to 162 (fun s12 wx => UpRel w0 blk off n K M a (i) (j) Dk s12 wx)
          case first =>
            go_wp2_with fail
            go_loopg [12] (j + 1) (fun g s12 wr => ∃ ix : Nat, s12 = .int .i64 ix ∧ a < ix ∧ ix ≤ j + 1 ∧ i ≤ ix ∧ j + 1 - ix ≤ g ∧ Hid (Srt w0 blk off n K M Dk wr) ∧ Hid (LowK K a ix Dk))
            case atStart => exact ⟨i, by first | rfl | go_num, by omega, by omega, Nat.le_refl _, by omega, S6, LO6⟩
            case round =>
              obtain ⟨ix, rfl, hax, hxj, hxi, hg, S1, LO⟩ := hrel
              by_cases hlt : ix ≤ j
              · have hd : decide ((ix : Int) ≤ (j : Int)) = true := decide_eq_true (by omega)
                by_cases hl : K (Dk ix) < K (Dk a)
                · have HLT := Lib.hid hl
                  clear hl
                  obtain ⟨i8, hi8⟩ : ∃ q : Nat, q = ix := ⟨_, rfl⟩
                  have eai8 : ((ix : Int)).toNat = i8 := by omega
                  have pai8 : (0 : Int) ≤ (ix : Int) := by omega
                  have bai8 : (ix : Int) < (n : Int) := by omega
                  have rai8 : IntKind.i64.wrap ((ix : Int)) = (ix : Int) := by rw [IntKind.wrap_i64]; omega
                  obtain ⟨j8, hj8⟩ : ∃ q : Nat, q = a := ⟨_, rfl⟩
                  have eaj8 : ((a : Int)).toNat = j8 := by omega
                  have paj8 : (0 : Int) ≤ (a : Int) := by omega
                  have baj8 : (a : Int) < (n : Int) := by omega
                  have raj8 : IntKind.i64.wrap ((a : Int)) = (a : Int) := by rw [IntKind.wrap_i64]; omega
                  obtain ⟨x8, hx8⟩ : ∃ x, Dk (i8) = x := ⟨_, rfl⟩
                  obtain ⟨y8, hy8⟩ : ∃ y, Dk (j8) = y := ⟨_, rfl⟩
                  obtain ⟨c18, f18⟩ := S1.out.row i8 (by omega)
                  obtain ⟨c28, f28⟩ := S1.out.row j8 (by omega)
                  have hxM8 : x8 < M := by rw [← hx8]; exact S1.out.ky.el _ (by omega)
                  have hyM8 : y8 < M := by rw [← hy8]; exact S1.out.ky.el _ (by omega)
                  rw [hx8] at c18
                  rw [hy8] at c28
                  have HCL8 := Lib.hid (fun q => HC.out (wr.drewN q) x8 y8 (S1.out.on.drewN q) hxM8 hyM8)
                  have hz8 : decide (cmpK K x8 y8 < 0) = true := by
                    rw [← hx8, ← hy8, hi8, hj8]
                    exact decide_eq_true (cmpK_lt.2 HLT.out)
                  clear hx8 hy8 hxM8 hyM8 hi8 hj8
                  generalize cmpK K x8 y8 = z8 at hz8 HCL8
                  go_wp2_with fail
                  go_quiet ((go_at_fn 34; exact Calls.quiet_of (HCL8.out _)))
                  have w2S := Lib.hid (S1.out.drewN nq)
                  clear c18 c28 f18 f28 HCL8
                  generalize wr.drewN nq = w2 at w2S ⊢
                  clear nq
                  clear eai8 pai8 bai8 rai8 eaj8 paj8 baj8 raj8
                  go_wp2_with fail
                  go_roundg (j + 1 - (ix + 1))
                  case measure => omega
                  case rel => exact ⟨ix + 1, by go_num, by omega, by omega, by omega, Nat.le_refl _, w2S, Lib.hid (low_next LO.out HLT.out)⟩
                · have HLT := Lib.hid hl
                  clear hl
                  obtain ⟨i9, hi9⟩ : ∃ q : Nat, q = ix := ⟨_, rfl⟩
                  have eai9 : ((ix : Int)).toNat = i9 := by omega
                  have pai9 : (0 : Int) ≤ (ix : Int) := by omega
                  have bai9 : (ix : Int) < (n : Int) := by omega
                  have rai9 : IntKind.i64.wrap ((ix : Int)) = (ix : Int) := by rw [IntKind.wrap_i64]; omega
                  obtain ⟨j9, hj9⟩ : ∃ q : Nat, q = a := ⟨_, rfl⟩
                  have eaj9 : ((a : Int)).toNat = j9 := by omega
                  have paj9 : (0 : Int) ≤ (a : Int) := by omega
                  have baj9 : (a : Int) < (n : Int) := by omega
                  have raj9 : IntKind.i64.wrap ((a : Int)) = (a : Int) := by rw [IntKind.wrap_i64]; omega
                  obtain ⟨x9, hx9⟩ : ∃ x, Dk (i9) = x := ⟨_, rfl⟩
                  obtain ⟨y9, hy9⟩ : ∃ y, Dk (j9) = y := ⟨_, rfl⟩
                  obtain ⟨c19, f19⟩ := S1.out.row i9 (by omega)
                  obtain ⟨c29, f29⟩ := S1.out.row j9 (by omega)
                  have hxM9 : x9 < M := by rw [← hx9]; exact S1.out.ky.el _ (by omega)
                  have hyM9 : y9 < M := by rw [← hy9]; exact S1.out.ky.el _ (by omega)
                  rw [hx9] at c19
                  rw [hy9] at c29
                  have HCL9 := Lib.hid (fun q => HC.out (wr.drewN q) x9 y9 (S1.out.on.drewN q) hxM9 hyM9)
                  have hz9 : decide (cmpK K x9 y9 < 0) = false := by
                    rw [← hx9, ← hy9, hi9, hj9]
                    exact decide_eq_false (fun h => HLT.out (cmpK_lt.1 h))
                  clear hx9 hy9 hxM9 hyM9 hi9 hj9
                  generalize cmpK K x9 y9 = z9 at hz9 HCL9
                  go_wp2_with fail
                  go_quiet ((go_at_fn 34; exact Calls.quiet_of (HCL9.out _)))
                  have w2S := Lib.hid (S1.out.drewN nq)
                  clear c19 c29 f19 f29 HCL9
                  generalize wr.drewN nq = w2 at w2S ⊢
                  clear nq
                  clear eai9 pai9 bai9 rai9 eaj9 paj9 baj9 raj9
                  go_wp2_with fail
                  go_meet
                  case rel => exact ⟨ix, rfl, hax, hxj, hxi, w2S, LO, Lib.hid (fun _ => by
                    have h1 := w2S.out.ky.inj a ix (by omega) (by omega) (by omega)
                    have h2 := HLT.out
                    omega)⟩
              · have hd : decide ((ix : Int) ≤ (j : Int)) = false := decide_eq_false (by omega)
                go_wp2_with fail
                go_quiet (fail)
                have w2S := Lib.hid (S1.out.drewN nq)
                generalize wr.drewN nq = w2 at w2S ⊢
                clear nq
                go_wp2_with fail
                go_meet
                case rel => exact ⟨ix, rfl, hax, hxj, hxi, w2S, LO, Lib.hid (fun h => by omega)⟩
          case rest =>
            clear LO6
            obtain ⟨i, rfl, hai, hij, hii, S7, LO7, UP7⟩ := hcut
            clear S6
            go_upto_block 8 with fail
            go_cut [13] from 105 to 162 (fun s13 wx => DownRel w0 blk off n K M a b (i) (j) Dk s13 wx)
            case first =>
              go_wp2_with fail
              go_loopg [13] b (fun g s13 wr => ∃ jx : Nat, s13 = .int .i64 jx ∧ a ≤ jx ∧ i ≤ jx + 1 ∧ jx < b ∧ jx ≤ j ∧ jx ≤ g ∧ Hid (Srt w0 blk off n K M Dk wr) ∧ Hid (HighK K a jx b Dk))
              case atStart => exact ⟨j, by first | rfl | go_num, by omega, by omega, by omega, Nat.le_refl _, by omega, S7, HI6⟩
              case round =>
                obtain ⟨jx, rfl, hax, hix, hxb, hx0, hg, S1, HI⟩ := hrel
                by_cases hlt : i ≤ jx
                · have hd : decide ((i : Int) ≤ (jx : Int)) = true := decide_eq_true (by omega)
                  by_cases hl : K (Dk jx) < K (Dk a)
                  · have HLT := Lib.hid hl
                    clear hl
                    obtain ⟨i10, hi10⟩ : ∃ q : Nat, q = jx := ⟨_, rfl⟩
                    have eai10 : ((jx : Int)).toNat = i10 := by omega
                    have pai10 : (0 : Int) ≤ (jx : Int) := by omega
                    have bai10 : (jx : Int) < (n : Int) := by omega
                    have rai10 : IntKind.i64.wrap ((jx : Int)) = (jx : Int) := by rw [IntKind.wrap_i64]; omega
                    obtain ⟨j10, hj10⟩ : ∃ q : Nat, q = a := ⟨_, rfl⟩
                    have eaj10 : ((a : Int)).toNat = j10 := by omega
                    have paj10 : (0 : Int) ≤ (a : Int) := by omega
                    have baj10 : (a : Int) < (n : Int) := by omega
                    have raj10 : IntKind.i64.wrap ((a : Int)) = (a : Int) := by rw [IntKind.wrap_i64]; omega
                    obtain ⟨x10, hx10⟩ : ∃ x, Dk (i10) = x := ⟨_, rfl⟩
                    obtain ⟨y10, hy10⟩ : ∃ y, Dk (j10) = y := ⟨_, rfl⟩
                    obtain ⟨c110, f110⟩ := S1.out.row i10 (by omega)
                    obtain ⟨c210, f210⟩ := S1.out.row j10 (by omega)
                    have hxM10 : x10 < M := by rw [← hx10]; exact S1.out.ky.el _ (by omega)
                    have hyM10 : y10 < M := by rw [← hy10]; exact S1.out.ky.el _ (by omega)
                    rw [hx10] at c110
                    rw [hy10] at c210
                    have HCL10 := Lib.hid (fun q => HC.out (wr.drewN q) x10 y10 (S1.out.on.drewN q) hxM10 hyM10)
                    have hz10 : decide (cmpK K x10 y10 < 0) = true := by
                      rw [← hx10, ← hy10, hi10, hj10]
                      exact decide_eq_true (cmpK_lt.2 HLT.out)
                    clear hx10 hy10 hxM10 hyM10 hi10 hj10
                    generalize cmpK K x10 y10 = z10 at hz10 HCL10
                    go_wp2_with fail
                    go_quiet ((go_at_fn 34; exact Calls.quiet_of (HCL10.out _)))
                    have w2S := Lib.hid (S1.out.drewN nq)
                    clear c110 c210 f110 f210 HCL10
                    generalize wr.drewN nq = w2 at w2S ⊢
                    clear nq
                    clear eai10 pai10 bai10 rai10 eaj10 paj10 baj10 raj10
                    go_wp2_with fail
                    go_meet
                    case rel => exact ⟨jx, rfl, hax, hix, hxb, hx0, w2S, HI, Lib.hid (fun _ => HLT.out)⟩
                  · have HLT := Lib.hid hl
                    clear hl
                    obtain ⟨i11, hi11⟩ : ∃ q : Nat, q = jx := ⟨_, rfl⟩
                    have eai11 : ((jx : Int)).toNat = i11 := by omega
                    have pai11 : (0 : Int) ≤ (jx : Int) := by omega
                    have bai11 : (jx : Int) < (n : Int) := by omega
                    have rai11 : IntKind.i64.wrap ((jx : Int)) = (jx : Int) := by rw [IntKind.wrap_i64]; omega
                    obtain ⟨j11, hj11⟩ : ∃ q : Nat, q = a := ⟨_, rfl⟩
                    have eaj11 : ((a : Int)).toNat = j11 := by omega
                    have paj11 : (0 : Int) ≤ (a : Int) := by omega
                    have baj11 : (a : Int) < (n : Int) := by omega
                    have raj11 : IntKind.i64.wrap ((a : Int)) = (a : Int) := by rw [IntKind.wrap_i64]; omega
                    obtain ⟨x11, hx11⟩ : ∃ x, Dk (i11) = x := ⟨_, rfl⟩
                    obtain ⟨y11, hy11⟩ : ∃ y, Dk (j11) = y := ⟨_, rfl⟩
                    obtain ⟨c111, f111⟩ := S1.out.row i11 (by omega)
                    obtain ⟨c211, f211⟩ := S1.out.row j11 (by omega)
                    have hxM11 : x11 < M := by rw [← hx11]; exact S1.out.ky.el _ (by omega)
                    have hyM11 : y11 < M := by rw [← hy11]; exact S1.out.ky.el _ (by omega)
                    rw [hx11] at c111
                    rw [hy11] at c211
                    have HCL11 := Lib.hid (fun q => HC.out (wr.drewN q) x11 y11 (S1.out.on.drewN q) hxM11 hyM11)
                    have hz11 : decide (cmpK K x11 y11 < 0) = false := by
                      rw [← hx11, ← hy11, hi11, hj11]
                      exact decide_eq_false (fun h => HLT.out (cmpK_lt.1 h))
                    clear hx11 hy11 hxM11 hyM11 hi11 hj11
                    generalize cmpK K x11 y11 = z11 at hz11 HCL11
                    go_wp2_with fail
                    go_quiet ((go_at_fn 34; exact Calls.quiet_of (HCL11.out _)))
                    have w2S := Lib.hid (S1.out.drewN nq)
                    clear c111 c211 f111 f211 HCL11
                    generalize wr.drewN nq = w2 at w2S ⊢
                    clear nq
                    clear eai11 pai11 bai11 rai11 eaj11 paj11 baj11 raj11
                    obtain ⟨jp, rfl⟩ : ∃ q, jx = q + 1 := ⟨jx - 1, by omega⟩
                    have HNL : Hid (K (Dk a) < K (Dk (jp + 1))) := by
                      have h1 := w2S.out.ky.inj a (jp + 1) (by omega) (by omega) (by omega)
                      have h2 := HLT.out
                      show _ < _
                      omega
                    go_wp2_with fail
                    go_roundg jp
                    case measure => omega
                    case rel => exact ⟨jp, by first | rfl | go_num, by omega, by omega, by omega, by omega, Nat.le_refl _, w2S, Lib.hid (high_next HI.out HNL.out)⟩
                · have hd : decide ((i : Int) ≤ (jx : Int)) = false := decide_eq_false (by omega)
                  go_wp2_with fail
                  go_quiet (fail)
                  have w2S := Lib.hid (S1.out.drewN nq)
                  generalize wr.drewN nq = w2 at w2S ⊢
                  clear nq
                  go_wp2_with fail
                  go_meet
                  case rel => exact ⟨jx, rfl, hax, hix, hxb, hx0, w2S, HI, Lib.hid (fun h => by omega)⟩
            case rest =>
              clear HI6
              obtain ⟨j, rfl, haj, hij, hjb, hj0, S8, HI8, DN8⟩ := hcut
              clear S7
              have SH8 : Hid (Shuf a b D Dk) := J6.out.1
              by_cases hgt : j < i
              · have hgt' : (j : Int) < i := by omega
                have hi1 : i = j + 1 := by omega
                have LO4 : Hid (LowK K a (j + 1) Dk) := by have := LO7.out; rw [hi1] at this; exact this
                clear hi1
                go_wp2_with fail
                obtain ⟨i12, hi12⟩ : ∃ q : Nat, q = j := ⟨_, rfl⟩
                have eai12 : ((j : Int)).toNat = i12 := by omega
                have pai12 : (0 : Int) ≤ (j : Int) := by omega
                have bai12 : (j : Int) < (n : Int) := by omega
                have rai12 : IntKind.i64.wrap ((j : Int)) = (j : Int) := by rw [IntKind.wrap_i64]; omega
                obtain ⟨j12, hj12⟩ : ∃ q : Nat, q = a := ⟨_, rfl⟩
                have eaj12 : ((a : Int)).toNat = j12 := by omega
                have paj12 : (0 : Int) ≤ (a : Int) := by omega
                have baj12 : (a : Int) < (n : Int) := by omega
                have raj12 : IntKind.i64.wrap ((a : Int)) = (a : Int) := by rw [IntKind.wrap_i64]; omega
                obtain ⟨x12, hx12⟩ : ∃ x, Dk (i12) = x := ⟨_, rfl⟩
                obtain ⟨y12, hy12⟩ : ∃ y, Dk (j12) = y := ⟨_, rfl⟩
                obtain ⟨c112, f112⟩ := S8.out.row i12 (by omega)
                obtain ⟨c212, f212⟩ := S8.out.row j12 (by omega)
                obtain ⟨u12, c312⟩ := S8.out.second (i := i12) (j := j12) (by omega) (by omega) (.int .i64 (y12 : Nat))
                have w9S : Hid (Srt w0 blk off n K M (swp Dk (j) (a)) ((wc.setCell ⟨blk, off + i12, none⟩ (.int .i64 (y12 : Nat))).setCell ⟨blk, off + j12, none⟩ (.int .i64 (x12 : Nat))).drew) := by
                  show Srt _ _ _ _ _ _ _ _
                  rw [← hx12, ← hy12]
                  subst hi12
                  subst hj12
                  exact (S8.out.swap (by omega) (by omega)).drewN 1
                rw [hx12] at c112
                rw [hy12] at c212
                clear hx12 hy12 hi12 hj12
                go_wp2_with fail
                go_region
                clear c112 c212 c312 f112 f212
                generalize ((wc.setCell ⟨blk, off + i12, none⟩ (.int .i64 (y12 : Nat))).setCell ⟨blk, off + j12, none⟩ (.int .i64 (x12 : Nat))).drew = w9 at w9S ⊢
                clear eai12 pai12 bai12 rai12 eaj12 paj12 baj12 raj12
                go_wp2_with fail
                go_ret2
                exact ⟨j, false, _, rfl, haj, hjb, w9S.out, SH8.out.trans (shuf_swp _ ⟨by omega, by omega⟩ ⟨by omega, by omega⟩), part_end LO4.out HI8.out haj⟩
              · have hgt' : ¬ (j : Int) < i := by omega
                have hne : i < j := by
                  have h1 := UP7.out (by omega)
                  have h2 := DN8.out (by omega)
                  rcases Nat.lt_or_ge i j with h | h
                  · exact h
                  · have : i = j := by omega
                    subst this; omega
                obtain ⟨jp, hjp⟩ : ∃ q, j = q + 1 := ⟨j - 1, by omega⟩
                subst hjp
                have p6 : IntKind.i64.wrap (jp : Int) = jp := by rw [IntKind.wrap_i64]; omega
                go_wp2_with fail
                obtain ⟨i13, hi13⟩ : ∃ q : Nat, q = i := ⟨_, rfl⟩
                have eai13 : ((i : Int)).toNat = i13 := by omega
                have pai13 : (0 : Int) ≤ (i : Int) := by omega
                have bai13 : (i : Int) < (n : Int) := by omega
                have rai13 : IntKind.i64.wrap ((i : Int)) = (i : Int) := by rw [IntKind.wrap_i64]; omega
                obtain ⟨j13, hj13⟩ : ∃ q : Nat, q = jp + 1 := ⟨_, rfl⟩
                have eaj13 : ((jp : Int) + 1).toNat = j13 := by omega
                have paj13 : (0 : Int) ≤ (jp : Int) + 1 := by omega
                have baj13 : (jp : Int) + 1 < (n : Int) := by omega
                have raj13 : IntKind.i64.wrap ((jp : Int) + 1) = (jp : Int) + 1 := by rw [IntKind.wrap_i64]; omega
                obtain ⟨x13, hx13⟩ : ∃ x, Dk (i13) = x := ⟨_, rfl⟩
                obtain ⟨y13, hy13⟩ : ∃ y, Dk (j13) = y := ⟨_, rfl⟩
                obtain ⟨c113, f113⟩ := S8.out.row i13 (by omega)
                obtain ⟨c213, f213⟩ := S8.out.row j13 (by omega)
                obtain ⟨u13, c313⟩ := S8.out.second (i := i13) (j := j13) (by omega) (by omega) (.int .i64 (y13 : Nat))
                have w9S : Hid (Srt w0 blk off n K M (swp Dk (i) (jp + 1)) ((wc.setCell ⟨blk, off + i13, none⟩ (.int .i64 (y13 : Nat))).setCell ⟨blk, off + j13, none⟩ (.int .i64 (x13 : Nat))).drew) := by
                  show Srt _ _ _ _ _ _ _ _
                  rw [← hx13, ← hy13]
                  subst hi13
                  subst hj13
                  exact (S8.out.swap (by omega) (by omega)).drewN 1
                rw [hx13] at c113
                rw [hy13] at c213
                clear hx13 hy13 hi13 hj13
                go_wp2_with fail
                go_region
                clear c113 c213 c313 f113 f213
                generalize ((wc.setCell ⟨blk, off + i13, none⟩ (.int .i64 (y13 : Nat))).setCell ⟨blk, off + j13, none⟩ (.int .i64 (x13 : Nat))).drew = w9 at w9S ⊢
                clear eai13 pai13 bai13 rai13 eaj13 paj13 baj13 raj13
                have J9 : Hid (Shuf a b D (swp Dk i (jp + 1)) ∧ LowK K a (i + 1) (swp Dk i (jp + 1)) ∧ HighK K a jp b (swp Dk i (jp + 1))) :=
                  ⟨SH8.out.trans (shuf_swp _ ⟨by omega, by omega⟩ ⟨by omega, by omega⟩), low_swp LO7.out hai hne (DN8.out (by omega)), high_swp HI8.out hai hne (UP7.out (by omega))⟩
                clear p6
                go_wp2_with fail
                go_roundg (jp + 1 - (i + 1))
                case measure => omega
                case rel => exact ⟨i + 1, jp, _, by go_num, by first | rfl | go_num, by omega, by omega, by omega, by omega, Nat.le_refl _, w9S, J9⟩
end Go.Proofs.Ytgfjfpfhalblgaa
