/- What slices' siftDownCmpFunc, heapSortCmpFunc do, with a method as the comparison. -/
import Derived.Test.YtgfjfpfhalblgaaHSa
namespace Go.Proofs.Ytgfjfpfhalblgaa
set_option maxRecDepth 1000000
open Go.ChangeShapes Go.WideShapes Go.ChangeAt Go.RowKit

/-- c is a child of p. -/
def Chd (p c : Nat) : Prop := c = 2 * p + 1 ∨ c = 2 * p + 2
/-- From lo on each of the first hi is greater than its children. -/
def HeapK (K : Nat → Int) (a lo hi : Nat) (D : Nat → Nat) : Prop := ∀ p c, lo ≤ p → Chd p c → c < hi → K (D (a + c)) < K (D (a + p))
/-- .. but r, which is on its way down. -/
def SiftK (K : Nat → Int) (a lo hi r : Nat) (D : Nat → Nat) : Prop :=
  (∀ p c, lo ≤ p → p ≠ r → Chd p c → c < hi → K (D (a + c)) < K (D (a + p))) ∧ ∀ p c, lo ≤ p → Chd p r → Chd r c → c < hi → K (D (a + c)) < K (D (a + p))
theorem sift_start {K : Nat → Int} {a lo hi : Nat} {D : Nat → Nat} (h : HeapK K a (lo + 1) hi D) : SiftK K a lo hi lo D :=
  ⟨fun p c h1 h2 h3 h4 => h p c (by omega) h3 h4, fun p c h1 h2 => by unfold Chd at h2; omega⟩
theorem sift_stop {K : Nat → Int} {a lo hi r : Nat} {D : Nat → Nat} (h : SiftK K a lo hi r D) (hc : ∀ c, Chd r c → c < hi → K (D (a + c)) < K (D (a + r))) : HeapK K a lo hi D := fun p c h1 h2 h3 => by
  by_cases hp : p = r
  · subst hp; exact hc c h2 h3
  · exact h.1 p c h1 hp h2 h3
theorem sift_step {K : Nat → Int} {a lo hi r m : Nat} {D : Nat → Nat} (h : SiftK K a lo hi r D) (hr : lo ≤ r) (hm : Chd r m) (hmh : m < hi) (hbig : ∀ c, Chd r c → c < hi → c ≠ m → K (D (a + c)) < K (D (a + m))) (hlt : K (D (a + r)) < K (D (a + m))) :
    SiftK K a lo hi m (swp D (a + r) (a + m)) := by
  have hmr : r < m := by unfold Chd at hm; omega
  refine ⟨fun p c h1 h2 h3 h4 => ?_, fun p c h1 h2 h3 h4 => ?_⟩
  · by_cases hp : p = r
    · subst hp
      rw [swp_i]
      by_cases hc : c = m
      · subst hc; rw [swp_j]; exact hlt
      · rw [swp_o D (by unfold Chd at h3; omega) (by omega)]; exact hbig c h3 h4 hc
    · rw [swp_o D (k := a + p) (by omega) (by omega)]
      by_cases hc : c = r
      · subst hc; rw [swp_i]; exact h.2 p m h1 h3 hm hmh
      · rw [swp_o D (by omega) (by unfold Chd at h3 hm; omega)]; exact h.1 p c h1 hp h3 h4
  · have hp : p = r := by unfold Chd at h2 hm; omega
    subst hp
    rw [swp_i, swp_o D (by unfold Chd at h3; omega) (by unfold Chd at h3; omega)]
    exact h.1 m c (by omega) (by omega) h3 h4
/-- The root is the greatest. -/
theorem heap_root {K : Nat → Int} {a hi : Nat} {D : Nat → Nat} (h : HeapK K a 0 hi D) : ∀ p, p < hi → p ≠ 0 → K (D (a + p)) < K (D a) := by
  intro p
  induction p using Nat.strongRecOn with
  | ind p ih =>
    intro hp h0
    have hq : Chd ((p - 1) / 2) p := by unfold Chd; omega
    have h1 := h _ p (Nat.zero_le _) hq hp
    by_cases hz : (p - 1) / 2 = 0
    · rw [hz] at h1; simpa using h1
    · exact Int.lt_trans h1 (ih _ (by omega) (by omega) hz)
/-- What siftDown leaves. -/
def SiftPost (w0 : World) (blk off n : Nat) (K : Nat → Int) (M a lo hi : Nat) (D : Nat → Nat) (e : Ending) (w' : World) : Prop :=
  e = .returned (.tuple #[]) ∧ ∃ D', Srt w0 blk off n K M D' w' ∧ Shuf (a + lo) (a + hi) D D' ∧ HeapK K a lo hi D'
set_option maxHeartbeats 8000000 in
theorem sift_any (w0 : World) (blk off n cap M a lo hi : Nat) (K : Nat → Int) (hp : Value) (D : Nat → Nat) (w : World) (hC : CmpOk w0 blk K M hp) (h : Srt w0 blk off n K M D w) (hH : HeapK K a (lo + 1) hi D) (hlo : lo ≤ hi) (hb : a + hi ≤ n) (hn : n ≤ 1000000000) :
    Calls Try.prog 49 #[.slice (some ⟨blk, off, none⟩) n cap, .int .i64 lo, .int .i64 hi, .int .i64 a, .func (.func 34) #[hp] #[]] w (SiftPost w0 blk off n K M a lo hi D) := by
  have HC := Lib.hid hC
  have S0 := Lib.hid h
  have H0 := Lib.hid (sift_start hH)
  have eg := eg34
  clear h hC hH
  go_enter Try.func49, Try.ntmps49
  go_wp2
  go_loopg [10] hi (fun g s10 wr => ∃ (r : Nat) (Di : Nat → Nat), s10 = .int .i64 r ∧ lo ≤ r ∧ r ≤ hi ∧ hi - r ≤ g ∧ Hid (Srt w0 blk off n K M Di wr) ∧ Hid (Shuf (a + lo) (a + hi) D Di) ∧ Hid (SiftK K a lo hi r Di))
  case atStart => exact ⟨lo, D, rfl, Nat.le_refl _, hlo, by omega, S0, Lib.hid (Shuf.refl _ _ _), H0⟩
  case round =>
    obtain ⟨r, Di, rfl, hlr, hrh, hg, S1, SH, SI⟩ := hrel
    obtain ⟨ch, hch⟩ : ∃ ch : Nat, (2 : Int) * r + 1 = ch := ⟨2 * r + 1, by omega⟩
    have hcn : ch = 2 * r + 1 := by omega
    have HCN := Lib.hid hcn
    by_cases hlt : ch < hi
    · have hlt' : ¬ (hi : Int) ≤ ch := by omega
      have hln : a + ch < n := by omega
      have hrn : a + r < n := by omega
      have hrch : r < ch := by omega
      clear hcn
      by_cases hc1 : ch + 1 < hi
      · have hd1 : decide ((ch : Int) + 1 < hi) = true := decide_eq_true (by omega)
        by_cases hl : K (Di (a + ch)) < K (Di (a + (ch + 1)))
        · have HLT := Lib.hid hl
          clear hl
          obtain ⟨i1, hi1⟩ : ∃ q : Nat, q = a + ch := ⟨_, rfl⟩
          have eai1 : ((a : Int) + ch).toNat = i1 := by omega
          have pai1 : (0 : Int) ≤ (a : Int) + ch := by omega
          have bai1 : (a : Int) + ch < (n : Int) := by omega
          have rai1 : IntKind.i64.wrap ((a : Int) + ch) = (a : Int) + ch := by rw [IntKind.wrap_i64]; omega
          obtain ⟨j1, hj1⟩ : ∃ q : Nat, q = a + (ch + 1) := ⟨_, rfl⟩
          have eaj1 : ((a : Int) + ch + 1).toNat = j1 := by omega
          have paj1 : (0 : Int) ≤ (a : Int) + ch + 1 := by omega
          have baj1 : (a : Int) + ch + 1 < (n : Int) := by omega
          have raj1 : IntKind.i64.wrap ((a : Int) + ch + 1) = (a : Int) + ch + 1 := by rw [IntKind.wrap_i64]; omega
          obtain ⟨x1, hx1⟩ : ∃ x, Di (i1) = x := ⟨_, rfl⟩
          obtain ⟨y1, hy1⟩ : ∃ y, Di (j1) = y := ⟨_, rfl⟩
          obtain ⟨c11, f11⟩ := S1.out.row i1 (by omega)
          obtain ⟨c21, f21⟩ := S1.out.row j1 (by omega)
          have hxM1 : x1 < M := by rw [← hx1]; exact S1.out.ky.el _ (by omega)
          have hyM1 : y1 < M := by rw [← hy1]; exact S1.out.ky.el _ (by omega)
          rw [hx1] at c11
          rw [hy1] at c21
          have HCL1 := Lib.hid (fun q => HC.out (wr.drewN q) x1 y1 (S1.out.on.drewN q) hxM1 hyM1)
          have hz1 : decide (cmpK K x1 y1 < 0) = true := by
            rw [← hx1, ← hy1, hi1, hj1]
            exact decide_eq_true (cmpK_lt.2 HLT.out)
          clear hx1 hy1 hxM1 hyM1 hi1 hj1
          generalize cmpK K x1 y1 = z1 at hz1 HCL1
          go_wp2_with fail
          go_quiet ((go_at_fn 34; exact Calls.quiet_of (HCL1.out _)))
          have w2S := Lib.hid (S1.out.drewN nq)
          clear c11 c21 f11 f21 HCL1
          generalize wr.drewN nq = w2 at w2S ⊢
          clear nq
          clear eai1 pai1 bai1 rai1 eaj1 paj1 baj1 raj1
          have BIG : Hid (∀ c, Chd r c → c < hi → c ≠ ch + 1 → K (Di (a + c)) < K (Di (a + (ch + 1)))) := fun c h1 h2 h3 => by
            have hcn := HCN.out
            unfold Chd at h1
            have : c = ch := by omega
            subst this
            exact HLT.out
          by_cases hl2 : K (Di (a + r)) < K (Di (a + (ch + 1)))
          · have HL2 := Lib.hid hl2
            clear hl2
            obtain ⟨i3, hi3⟩ : ∃ q : Nat, q = a + r := ⟨_, rfl⟩
            have eai3 : ((a : Int) + r).toNat = i3 := by omega
            have pai3 : (0 : Int) ≤ (a : Int) + r := by omega
            have bai3 : (a : Int) + r < (n : Int) := by omega
            have rai3 : IntKind.i64.wrap ((a : Int) + r) = (a : Int) + r := by rw [IntKind.wrap_i64]; omega
            obtain ⟨j3, hj3⟩ : ∃ q : Nat, q = a + (ch + 1) := ⟨_, rfl⟩
            have eaj3 : ((a : Int) + ((ch : Int) + 1)).toNat = j3 := by omega
            have paj3 : (0 : Int) ≤ (a : Int) + ((ch : Int) + 1) := by omega
            have baj3 : (a : Int) + ((ch : Int) + 1) < (n : Int) := by omega
            have raj3 : IntKind.i64.wrap ((a : Int) + ((ch : Int) + 1)) = (a : Int) + ((ch : Int) + 1) := by rw [IntKind.wrap_i64]; omega
            obtain ⟨x3, hx3⟩ : ∃ x, Di (i3) = x := ⟨_, rfl⟩
            obtain ⟨y3, hy3⟩ : ∃ y, Di (j3) = y := ⟨_, rfl⟩
            obtain ⟨c13, f13⟩ := w2S.out.row i3 (by omega)
            obtain ⟨c23, f23⟩ := w2S.out.row j3 (by omega)
            have hxM3 : x3 < M := by rw [← hx3]; exact w2S.out.ky.el _ (by omega)
            have hyM3 : y3 < M := by rw [← hy3]; exact w2S.out.ky.el _ (by omega)
            rw [hx3] at c13
            rw [hy3] at c23
            have HCL3 := Lib.hid (fun q => HC.out (w2.drewN q) x3 y3 (w2S.out.on.drewN q) hxM3 hyM3)
            have hz3 : decide (cmpK K x3 y3 < 0) = true := by
              rw [← hx3, ← hy3, hi3, hj3]
              exact decide_eq_true (cmpK_lt.2 HL2.out)
            clear hx3 hy3 hxM3 hyM3 hi3 hj3
            generalize cmpK K x3 y3 = z3 at hz3 HCL3
            go_wp2_with fail
            go_quiet ((go_at_fn 34; exact Calls.quiet_of (HCL3.out _)))
            have w4S := Lib.hid (w2S.out.drewN nq)
            clear c13 c23 f13 f23 HCL3
            generalize w2.drewN nq = w4 at w4S ⊢
            clear nq
            clear eai3 pai3 bai3 rai3 eaj3 paj3 baj3 raj3
            obtain ⟨i4, hi4⟩ : ∃ q : Nat, q = a + r := ⟨_, rfl⟩
            have eai4 : ((a : Int) + r).toNat = i4 := by omega
            have pai4 : (0 : Int) ≤ (a : Int) + r := by omega
            have bai4 : (a : Int) + r < (n : Int) := by omega
            have rai4 : IntKind.i64.wrap ((a : Int) + r) = (a : Int) + r := by rw [IntKind.wrap_i64]; omega
            obtain ⟨j4, hj4⟩ : ∃ q : Nat, q = a + (ch + 1) := ⟨_, rfl⟩
            have eaj4 : ((a : Int) + ((ch : Int) + 1)).toNat = j4 := by omega
            have paj4 : (0 : Int) ≤ (a : Int) + ((ch : Int) + 1) := by omega
            have baj4 : (a : Int) + ((ch : Int) + 1) < (n : Int) := by omega
            have raj4 : IntKind.i64.wrap ((a : Int) + ((ch : Int) + 1)) = (a : Int) + ((ch : Int) + 1) := by rw [IntKind.wrap_i64]; omega
            obtain ⟨x4, hx4⟩ : ∃ x, Di (i4) = x := ⟨_, rfl⟩
            obtain ⟨y4, hy4⟩ : ∃ y, Di (j4) = y := ⟨_, rfl⟩
            obtain ⟨c14, f14⟩ := w4S.out.row i4 (by omega)
            obtain ⟨c24, f24⟩ := w4S.out.row j4 (by omega)
            obtain ⟨u4, c34⟩ := w4S.out.second (i := i4) (j := j4) (by omega) (by omega) (.int .i64 (y4 : Nat))
            have w5S : Hid (Srt w0 blk off n K M (swp Di (a + r) (a + (ch + 1))) ((w4.setCell ⟨blk, off + i4, none⟩ (.int .i64 (y4 : Nat))).setCell ⟨blk, off + j4, none⟩ (.int .i64 (x4 : Nat))).drew) := by
              show Srt _ _ _ _ _ _ _ _
              rw [← hx4, ← hy4, ← hi4, ← hj4]
              exact (w4S.out.swap (by omega) (by omega)).drewN 1
            rw [hx4] at c14
            rw [hy4] at c24
            clear hx4 hy4 hi4 hj4
            go_wp2_with fail
            go_region
            clear c14 c24 c34 f14 f24
            generalize ((w4.setCell ⟨blk, off + i4, none⟩ (.int .i64 (y4 : Nat))).setCell ⟨blk, off + j4, none⟩ (.int .i64 (x4 : Nat))).drew = w5 at w5S ⊢
            clear eai4 pai4 bai4 rai4 eaj4 paj4 baj4 raj4
            go_wp2_with fail
            go_roundg (hi - (ch + 1))
            case measure => omega
            case rel =>
              have hcn := HCN.out
              exact ⟨ch + 1, swp Di (a + r) (a + (ch + 1)), by first | rfl | go_num, by omega, by omega, Nat.le_refl _, w5S, Lib.hid (SH.out.trans (shuf_swp _ ⟨by omega, by omega⟩ ⟨by omega, by omega⟩)), Lib.hid (sift_step SI.out hlr (by unfold Chd; omega) (by omega) BIG.out HL2.out)⟩
          · have HL2 := Lib.hid hl2
            clear hl2
            obtain ⟨i5, hi5⟩ : ∃ q : Nat, q = a + r := ⟨_, rfl⟩
            have eai5 : ((a : Int) + r).toNat = i5 := by omega
            have pai5 : (0 : Int) ≤ (a : Int) + r := by omega
            have bai5 : (a : Int) + r < (n : Int) := by omega
            have rai5 : IntKind.i64.wrap ((a : Int) + r) = (a : Int) + r := by rw [IntKind.wrap_i64]; omega
            obtain ⟨j5, hj5⟩ : ∃ q : Nat, q = a + (ch + 1) := ⟨_, rfl⟩
            have eaj5 : ((a : Int) + ((ch : Int) + 1)).toNat = j5 := by omega
            have paj5 : (0 : Int) ≤ (a : Int) + ((ch : Int) + 1) := by omega
            have baj5 : (a : Int) + ((ch : Int) + 1) < (n : Int) := by omega
            have raj5 : IntKind.i64.wrap ((a : Int) + ((ch : Int) + 1)) = (a : Int) + ((ch : Int) + 1) := by rw [IntKind.wrap_i64]; omega
            obtain ⟨x5, hx5⟩ : ∃ x, Di (i5) = x := ⟨_, rfl⟩
            obtain ⟨y5, hy5⟩ : ∃ y, Di (j5) = y := ⟨_, rfl⟩
            obtain ⟨c15, f15⟩ := w2S.out.row i5 (by omega)
            obtain ⟨c25, f25⟩ := w2S.out.row j5 (by omega)
            have hxM5 : x5 < M := by rw [← hx5]; exact w2S.out.ky.el _ (by omega)
            have hyM5 : y5 < M := by rw [← hy5]; exact w2S.out.ky.el _ (by omega)
            rw [hx5] at c15
            rw [hy5] at c25
            have HCL5 := Lib.hid (fun q => HC.out (w2.drewN q) x5 y5 (w2S.out.on.drewN q) hxM5 hyM5)
            have hz5 : decide (cmpK K x5 y5 < 0) = false := by
              rw [← hx5, ← hy5, hi5, hj5]
              exact decide_eq_false (fun h => HL2.out (cmpK_lt.1 h))
            clear hx5 hy5 hxM5 hyM5 hi5 hj5
            generalize cmpK K x5 y5 = z5 at hz5 HCL5
            go_wp2_with fail
            go_quiet ((go_at_fn 34; exact Calls.quiet_of (HCL5.out _)))
            have w4S := Lib.hid (w2S.out.drewN nq)
            clear c15 c25 f15 f25 HCL5
            generalize w2.drewN nq = w4 at w4S ⊢
            clear nq
            clear eai5 pai5 bai5 rai5 eaj5 paj5 baj5 raj5
            have FIN : Hid (HeapK K a lo hi Di) := sift_stop SI.out (fun c h1 h2 => by
              have h3 := w4S.out.ky.inj (a + r) (a + (ch + 1)) (by omega) (by omega) (by omega)
              have h4 := HL2.out
              by_cases hc : c = ch + 1
              · subst hc; omega
              · have := BIG.out c h1 h2 hc; omega)
            go_wp2_with fail
            go_end0
            exact ⟨rfl, Di, w4S.out, SH.out, FIN.out⟩
        · have HLT := Lib.hid hl
          clear hl
          obtain ⟨i2, hi2⟩ : ∃ q : Nat, q = a + ch := ⟨_, rfl⟩
          have eai2 : ((a : Int) + ch).toNat = i2 := by omega
          have pai2 : (0 : Int) ≤ (a : Int) + ch := by omega
          have bai2 : (a : Int) + ch < (n : Int) := by omega
          have rai2 : IntKind.i64.wrap ((a : Int) + ch) = (a : Int) + ch := by rw [IntKind.wrap_i64]; omega
          obtain ⟨j2, hj2⟩ : ∃ q : Nat, q = a + (ch + 1) := ⟨_, rfl⟩
          have eaj2 : ((a : Int) + ch + 1).toNat = j2 := by omega
          have paj2 : (0 : Int) ≤ (a : Int) + ch + 1 := by omega
          have baj2 : (a : Int) + ch + 1 < (n : Int) := by omega
          have raj2 : IntKind.i64.wrap ((a : Int) + ch + 1) = (a : Int) + ch + 1 := by rw [IntKind.wrap_i64]; omega
          obtain ⟨x2, hx2⟩ : ∃ x, Di (i2) = x := ⟨_, rfl⟩
          obtain ⟨y2, hy2⟩ : ∃ y, Di (j2) = y := ⟨_, rfl⟩
          obtain ⟨c12, f12⟩ := S1.out.row i2 (by omega)
          obtain ⟨c22, f22⟩ := S1.out.row j2 (by omega)
          have hxM2 : x2 < M := by rw [← hx2]; exact S1.out.ky.el _ (by omega)
          have hyM2 : y2 < M := by rw [← hy2]; exact S1.out.ky.el _ (by omega)
          rw [hx2] at c12
          rw [hy2] at c22
          have HCL2 := Lib.hid (fun q => HC.out (wr.drewN q) x2 y2 (S1.out.on.drewN q) hxM2 hyM2)
          have hz2 : decide (cmpK K x2 y2 < 0) = false := by
            rw [← hx2, ← hy2, hi2, hj2]
            exact decide_eq_false (fun h => HLT.out (cmpK_lt.1 h))
          clear hx2 hy2 hxM2 hyM2 hi2 hj2
          generalize cmpK K x2 y2 = z2 at hz2 HCL2
          go_wp2_with fail
          go_quiet ((go_at_fn 34; exact Calls.quiet_of (HCL2.out _)))
          have w2S := Lib.hid (S1.out.drewN nq)
          clear c12 c22 f12 f22 HCL2
          generalize wr.drewN nq = w2 at w2S ⊢
          clear nq
          clear eai2 pai2 bai2 rai2 eaj2 paj2 baj2 raj2
          have BIG : Hid (∀ c, Chd r c → c < hi → c ≠ ch → K (Di (a + c)) < K (Di (a + (ch)))) := fun c h1 h2 h3 => by
            have hcn := HCN.out
            unfold Chd at h1
            have : c = ch + 1 := by omega
            subst this
            have h5 := w2S.out.ky.inj (a + ch) (a + (ch + 1)) (by omega) (by omega) (by omega)
            have h6 := HLT.out
            omega
          by_cases hl2 : K (Di (a + r)) < K (Di (a + (ch)))
          · have HL2 := Lib.hid hl2
            clear hl2
            obtain ⟨i6, hi6⟩ : ∃ q : Nat, q = a + r := ⟨_, rfl⟩
            have eai6 : ((a : Int) + r).toNat = i6 := by omega
            have pai6 : (0 : Int) ≤ (a : Int) + r := by omega
            have bai6 : (a : Int) + r < (n : Int) := by omega
            have rai6 : IntKind.i64.wrap ((a : Int) + r) = (a : Int) + r := by rw [IntKind.wrap_i64]; omega
            obtain ⟨j6, hj6⟩ : ∃ q : Nat, q = a + (ch) := ⟨_, rfl⟩
            have eaj6 : ((a : Int) + (ch : Int)).toNat = j6 := by omega
            have paj6 : (0 : Int) ≤ (a : Int) + (ch : Int) := by omega
            have baj6 : (a : Int) + (ch : Int) < (n : Int) := by omega
            have raj6 : IntKind.i64.wrap ((a : Int) + (ch : Int)) = (a : Int) + (ch : Int) := by rw [IntKind.wrap_i64]; omega
            obtain ⟨x6, hx6⟩ : ∃ x, Di (i6) = x := ⟨_, rfl⟩
            obtain ⟨y6, hy6⟩ : ∃ y, Di (j6) = y := ⟨_, rfl⟩
            obtain ⟨c16, f16⟩ := w2S.out.row i6 (by omega)
            obtain ⟨c26, f26⟩ := w2S.out.row j6 (by omega)
            have hxM6 : x6 < M := by rw [← hx6]; exact w2S.out.ky.el _ (by omega)
            have hyM6 : y6 < M := by rw [← hy6]; exact w2S.out.ky.el _ (by omega)
            rw [hx6] at c16
            rw [hy6] at c26
            have HCL6 := Lib.hid (fun q => HC.out (w2.drewN q) x6 y6 (w2S.out.on.drewN q) hxM6 hyM6)
            have hz6 : decide (cmpK K x6 y6 < 0) = true := by
              rw [← hx6, ← hy6, hi6, hj6]
              exact decide_eq_true (cmpK_lt.2 HL2.out)
            clear hx6 hy6 hxM6 hyM6 hi6 hj6
            generalize cmpK K x6 y6 = z6 at hz6 HCL6
            go_wp2_with fail
            go_quiet ((go_at_fn 34; exact Calls.quiet_of (HCL6.out _)))
            have w4S := Lib.hid (w2S.out.drewN nq)
            clear c16 c26 f16 f26 HCL6
            generalize w2.drewN nq = w4 at w4S ⊢
            clear nq
            clear eai6 pai6 bai6 rai6 eaj6 paj6 baj6 raj6
            obtain ⟨i7, hi7⟩ : ∃ q : Nat, q = a + r := ⟨_, rfl⟩
            have eai7 : ((a : Int) + r).toNat = i7 := by omega
            have pai7 : (0 : Int) ≤ (a : Int) + r := by omega
            have bai7 : (a : Int) + r < (n : Int) := by omega
            have rai7 : IntKind.i64.wrap ((a : Int) + r) = (a : Int) + r := by rw [IntKind.wrap_i64]; omega
            obtain ⟨j7, hj7⟩ : ∃ q : Nat, q = a + (ch) := ⟨_, rfl⟩
            have eaj7 : ((a : Int) + (ch : Int)).toNat = j7 := by omega
            have paj7 : (0 : Int) ≤ (a : Int) + (ch : Int) := by omega
            have baj7 : (a : Int) + (ch : Int) < (n : Int) := by omega
            have raj7 : IntKind.i64.wrap ((a : Int) + (ch : Int)) = (a : Int) + (ch : Int) := by rw [IntKind.wrap_i64]; omega
            obtain ⟨x7, hx7⟩ : ∃ x, Di (i7) = x := ⟨_, rfl⟩
            obtain ⟨y7, hy7⟩ : ∃ y, Di (j7) = y := ⟨_, rfl⟩
            obtain ⟨c17, f17⟩ := w4S.out.row i7 (by omega)
            obtain ⟨c27, f27⟩ := w4S.out.row j7 (by omega)
            obtain ⟨u7, c37⟩ := w4S.out.second (i := i7) (j := j7) (by omega) (by omega) (.int .i64 (y7 : Nat))
            have w5S : Hid (Srt w0 blk off n K M (swp Di (a + r) (a + (ch))) ((w4.setCell ⟨blk, off + i7, none⟩ (.int .i64 (y7 : Nat))).setCell ⟨blk, off + j7, none⟩ (.int .i64 (x7 : Nat))).drew) := by
              show Srt _ _ _ _ _ _ _ _
              rw [← hx7, ← hy7, ← hi7, ← hj7]
              exact (w4S.out.swap (by omega) (by omega)).drewN 1
            rw [hx7] at c17
            rw [hy7] at c27
            clear hx7 hy7 hi7 hj7
            go_wp2_with fail
            go_region
            clear c17 c27 c37 f17 f27
            generalize ((w4.setCell ⟨blk, off + i7, none⟩ (.int .i64 (y7 : Nat))).setCell ⟨blk, off + j7, none⟩ (.int .i64 (x7 : Nat))).drew = w5 at w5S ⊢
            clear eai7 pai7 bai7 rai7 eaj7 paj7 baj7 raj7
            go_wp2_with fail
            go_roundg (hi - (ch))
            case measure => omega
            case rel =>
              have hcn := HCN.out
              exact ⟨ch, swp Di (a + r) (a + (ch)), by first | rfl | go_num, by omega, by omega, Nat.le_refl _, w5S, Lib.hid (SH.out.trans (shuf_swp _ ⟨by omega, by omega⟩ ⟨by omega, by omega⟩)), Lib.hid (sift_step SI.out hlr (by unfold Chd; omega) (by omega) BIG.out HL2.out)⟩
          · have HL2 := Lib.hid hl2
            clear hl2
            obtain ⟨i8, hi8⟩ : ∃ q : Nat, q = a + r := ⟨_, rfl⟩
            have eai8 : ((a : Int) + r).toNat = i8 := by omega
            have pai8 : (0 : Int) ≤ (a : Int) + r := by omega
            have bai8 : (a : Int) + r < (n : Int) := by omega
            have rai8 : IntKind.i64.wrap ((a : Int) + r) = (a : Int) + r := by rw [IntKind.wrap_i64]; omega
            obtain ⟨j8, hj8⟩ : ∃ q : Nat, q = a + (ch) := ⟨_, rfl⟩
            have eaj8 : ((a : Int) + (ch : Int)).toNat = j8 := by omega
            have paj8 : (0 : Int) ≤ (a : Int) + (ch : Int) := by omega
            have baj8 : (a : Int) + (ch : Int) < (n : Int) := by omega
            have raj8 : IntKind.i64.wrap ((a : Int) + (ch : Int)) = (a : Int) + (ch : Int) := by rw [IntKind.wrap_i64]; omega
            obtain ⟨x8, hx8⟩ : ∃ x, Di (i8) = x := ⟨_, rfl⟩
            obtain ⟨y8, hy8⟩ : ∃ y, Di (j8) = y := ⟨_, rfl⟩
            obtain ⟨c18, f18⟩ := w2S.out.row i8 (by omega)
            obtain ⟨c28, f28⟩ := w2S.out.row j8 (by omega)
            have hxM8 : x8 < M := by rw [← hx8]; exact w2S.out.ky.el _ (by omega)
            have hyM8 : y8 < M := by rw [← hy8]; exact w2S.out.ky.el _ (by omega)
            rw [hx8] at c18
            rw [hy8] at c28
            have HCL8 := Lib.hid (fun q => HC.out (w2.drewN q) x8 y8 (w2S.out.on.drewN q) hxM8 hyM8)
            have hz8 : decide (cmpK K x8 y8 < 0) = false := by
              rw [← hx8, ← hy8, hi8, hj8]
              exact decide_eq_false (fun h => HL2.out (cmpK_lt.1 h))
            clear hx8 hy8 hxM8 hyM8 hi8 hj8
            generalize cmpK K x8 y8 = z8 at hz8 HCL8
            go_wp2_with fail
            go_quiet ((go_at_fn 34; exact Calls.quiet_of (HCL8.out _)))
            have w4S := Lib.hid (w2S.out.drewN nq)
            clear c18 c28 f18 f28 HCL8
            generalize w2.drewN nq = w4 at w4S ⊢
            clear nq
            clear eai8 pai8 bai8 rai8 eaj8 paj8 baj8 raj8
            have FIN : Hid (HeapK K a lo hi Di) := sift_stop SI.out (fun c h1 h2 => by
              have h3 := w4S.out.ky.inj (a + r) (a + (ch)) (by omega) (by omega) (by omega)
              have h4 := HL2.out
              by_cases hc : c = ch
              · subst hc; omega
              · have := BIG.out c h1 h2 hc; omega)
            go_wp2_with fail
            go_end0
            exact ⟨rfl, Di, w4S.out, SH.out, FIN.out⟩
      · have hd1 : decide ((ch : Int) + 1 < hi) = false := decide_eq_false (by omega)
        go_wp2_with fail
        go_quiet (fail)
        have w2S := Lib.hid (S1.out.drewN nq)
        generalize wr.drewN nq = w2 at w2S ⊢
        clear nq
        have BIG : Hid (∀ c, Chd r c → c < hi → c ≠ ch → K (Di (a + c)) < K (Di (a + (ch)))) := fun c h1 h2 h3 => by
          have hcn := HCN.out
          unfold Chd at h1
          omega
        by_cases hl2 : K (Di (a + r)) < K (Di (a + (ch)))
        · have HL2 := Lib.hid hl2
          clear hl2
          obtain ⟨i9, hi9⟩ : ∃ q : Nat, q = a + r := ⟨_, rfl⟩
          have eai9 : ((a : Int) + r).toNat = i9 := by omega
          have pai9 : (0 : Int) ≤ (a : Int) + r := by omega
          have bai9 : (a : Int) + r < (n : Int) := by omega
          have rai9 : IntKind.i64.wrap ((a : Int) + r) = (a : Int) + r := by rw [IntKind.wrap_i64]; omega
          obtain ⟨j9, hj9⟩ : ∃ q : Nat, q = a + (ch) := ⟨_, rfl⟩
          have eaj9 : ((a : Int) + (ch : Int)).toNat = j9 := by omega
          have paj9 : (0 : Int) ≤ (a : Int) + (ch : Int) := by omega
          have baj9 : (a : Int) + (ch : Int) < (n : Int) := by omega
          have raj9 : IntKind.i64.wrap ((a : Int) + (ch : Int)) = (a : Int) + (ch : Int) := by rw [IntKind.wrap_i64]; omega
          obtain ⟨x9, hx9⟩ : ∃ x, Di (i9) = x := ⟨_, rfl⟩
          obtain ⟨y9, hy9⟩ : ∃ y, Di (j9) = y := ⟨_, rfl⟩
          obtain ⟨c19, f19⟩ := w2S.out.row i9 (by omega)
          obtain ⟨c29, f29⟩ := w2S.out.row j9 (by omega)
          have hxM9 : x9 < M := by rw [← hx9]; exact w2S.out.ky.el _ (by omega)
          have hyM9 : y9 < M := by rw [← hy9]; exact w2S.out.ky.el _ (by omega)
          rw [hx9] at c19
          rw [hy9] at c29
          have HCL9 := Lib.hid (fun q => HC.out (w2.drewN q) x9 y9 (w2S.out.on.drewN q) hxM9 hyM9)
          have hz9 : decide (cmpK K x9 y9 < 0) = true := by
            rw [← hx9, ← hy9, hi9, hj9]
            exact decide_eq_true (cmpK_lt.2 HL2.out)
          clear hx9 hy9 hxM9 hyM9 hi9 hj9
          generalize cmpK K x9 y9 = z9 at hz9 HCL9
          go_wp2_with fail
          go_quiet ((go_at_fn 34; exact Calls.quiet_of (HCL9.out _)))
          have w4S := Lib.hid (w2S.out.drewN nq)
          clear c19 c29 f19 f29 HCL9
          generalize w2.drewN nq = w4 at w4S ⊢
          clear nq
          clear eai9 pai9 bai9 rai9 eaj9 paj9 baj9 raj9
          obtain ⟨i10, hi10⟩ : ∃ q : Nat, q = a + r := ⟨_, rfl⟩
          have eai10 : ((a : Int) + r).toNat = i10 := by omega
          have pai10 : (0 : Int) ≤ (a : Int) + r := by omega
          have bai10 : (a : Int) + r < (n : Int) := by omega
          have rai10 : IntKind.i64.wrap ((a : Int) + r) = (a : Int) + r := by rw [IntKind.wrap_i64]; omega
          obtain ⟨j10, hj10⟩ : ∃ q : Nat, q = a + (ch) := ⟨_, rfl⟩
          have eaj10 : ((a : Int) + (ch : Int)).toNat = j10 := by omega
          have paj10 : (0 : Int) ≤ (a : Int) + (ch : Int) := by omega
          have baj10 : (a : Int) + (ch : Int) < (n : Int) := by omega
          have raj10 : IntKind.i64.wrap ((a : Int) + (ch : Int)) = (a : Int) + (ch : Int) := by rw [IntKind.wrap_i64]; omega
          obtain ⟨x10, hx10⟩ : ∃ x, Di (i10) = x := ⟨_, rfl⟩
          obtain ⟨y10, hy10⟩ : ∃ y, Di (j10) = y := ⟨_, rfl⟩
          obtain ⟨c110, f110⟩ := w4S.out.row i10 (by omega)
          obtain ⟨c210, f210⟩ := w4S.out.row j10 (by omega)
          obtain ⟨u10, c310⟩ := w4S.out.second (i := i10) (j := j10) (by omega) (by omega) (.int .i64 (y10 : Nat))
          have w5S : Hid (Srt w0 blk off n K M (swp Di (a + r) (a + (ch))) ((w4.setCell ⟨blk, off + i10, none⟩ (.int .i64 (y10 : Nat))).setCell ⟨blk, off + j10, none⟩ (.int .i64 (x10 : Nat))).drew) := by
            show Srt _ _ _ _ _ _ _ _
            rw [← hx10, ← hy10, ← hi10, ← hj10]
            exact (w4S.out.swap (by omega) (by omega)).drewN 1
          rw [hx10] at c110
          rw [hy10] at c210
          clear hx10 hy10 hi10 hj10
          go_wp2_with fail
          go_region
          clear c110 c210 c310 f110 f210
          generalize ((w4.setCell ⟨blk, off + i10, none⟩ (.int .i64 (y10 : Nat))).setCell ⟨blk, off + j10, none⟩ (.int .i64 (x10 : Nat))).drew = w5 at w5S ⊢
          clear eai10 pai10 bai10 rai10 eaj10 paj10 baj10 raj10
          go_wp2_with fail
          go_roundg (hi - (ch))
          case measure => omega
          case rel =>
            have hcn := HCN.out
            exact ⟨ch, swp Di (a + r) (a + (ch)), by first | rfl | go_num, by omega, by omega, Nat.le_refl _, w5S, Lib.hid (SH.out.trans (shuf_swp _ ⟨by omega, by omega⟩ ⟨by omega, by omega⟩)), Lib.hid (sift_step SI.out hlr (by unfold Chd; omega) (by omega) BIG.out HL2.out)⟩
        · have HL2 := Lib.hid hl2
          clear hl2
          obtain ⟨i11, hi11⟩ : ∃ q : Nat, q = a + r := ⟨_, rfl⟩
          have eai11 : ((a : Int) + r).toNat = i11 := by omega
          have pai11 : (0 : Int) ≤ (a : Int) + r := by omega
          have bai11 : (a : Int) + r < (n : Int) := by omega
          have rai11 : IntKind.i64.wrap ((a : Int) + r) = (a : Int) + r := by rw [IntKind.wrap_i64]; omega
          obtain ⟨j11, hj11⟩ : ∃ q : Nat, q = a + (ch) := ⟨_, rfl⟩
          have eaj11 : ((a : Int) + (ch : Int)).toNat = j11 := by omega
          have paj11 : (0 : Int) ≤ (a : Int) + (ch : Int) := by omega
          have baj11 : (a : Int) + (ch : Int) < (n : Int) := by omega
          have raj11 : IntKind.i64.wrap ((a : Int) + (ch : Int)) = (a : Int) + (ch : Int) := by rw [IntKind.wrap_i64]; omega
          obtain ⟨x11, hx11⟩ : ∃ x, Di (i11) = x := ⟨_, rfl⟩
          obtain ⟨y11, hy11⟩ : ∃ y, Di (j11) = y := ⟨_, rfl⟩
          obtain ⟨c111, f111⟩ := w2S.out.row i11 (by omega)
          obtain ⟨c211, f211⟩ := w2S.out.row j11 (by omega)
          have hxM11 : x11 < M := by rw [← hx11]; exact w2S.out.ky.el _ (by omega)
          have hyM11 : y11 < M := by rw [← hy11]; exact w2S.out.ky.el _ (by omega)
          rw [hx11] at c111
          rw [hy11] at c211
          have HCL11 := Lib.hid (fun q => HC.out (w2.drewN q) x11 y11 (w2S.out.on.drewN q) hxM11 hyM11)
          have hz11 : decide (cmpK K x11 y11 < 0) = false := by
            rw [← hx11, ← hy11, hi11, hj11]
            exact decide_eq_false (fun h => HL2.out (cmpK_lt.1 h))
          clear hx11 hy11 hxM11 hyM11 hi11 hj11
          generalize cmpK K x11 y11 = z11 at hz11 HCL11
          go_wp2_with fail
          go_quiet ((go_at_fn 34; exact Calls.quiet_of (HCL11.out _)))
          have w4S := Lib.hid (w2S.out.drewN nq)
          clear c111 c211 f111 f211 HCL11
          generalize w2.drewN nq = w4 at w4S ⊢
          clear nq
          clear eai11 pai11 bai11 rai11 eaj11 paj11 baj11 raj11
          have FIN : Hid (HeapK K a lo hi Di) := sift_stop SI.out (fun c h1 h2 => by
            have h3 := w4S.out.ky.inj (a + r) (a + (ch)) (by omega) (by omega) (by omega)
            have h4 := HL2.out
            by_cases hc : c = ch
            · subst hc; omega
            · have := BIG.out c h1 h2 hc; omega)
          go_wp2_with fail
          go_end0
          exact ⟨rfl, Di, w4S.out, SH.out, FIN.out⟩
    · have hlt' : (hi : Int) ≤ ch := by omega
      have FIN : Hid (HeapK K a lo hi Di) := sift_stop SI.out (fun c h1 h2 => by unfold Chd at h1; omega)
      clear hcn
      go_wp2
      go_end0
      exact ⟨rfl, Di, S1.out, SH.out, FIN.out⟩
end Go.Proofs.Ytgfjfpfhalblgaa
