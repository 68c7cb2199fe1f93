/- What slices' heapSortCmpFunc does, with a method as the comparison. -/
import Derived.Test.YtgfjfpfhalblgaaHSc
namespace Go.Proofs.Ytgfjfpfhalblgaa
set_option maxRecDepth 1000000
open Go.ChangeShapes Go.WideShapes Go.ChangeAt Go.RowKit

/-- The first i are a heap; behind them all are sorted, and greater. -/
def PopK (K : Nat → Int) (a i l : Nat) (D : Nat → Nat) : Prop := HeapK K a 0 i D ∧ SortedK K (a + i) (a + l) D ∧ ∀ p q, p < i → i ≤ q → q < l → K (D (a + p)) < K (D (a + q))
theorem pop_step {K : Nat → Int} {a i l : Nat} {D D' : Nat → Nat} (h : PopK K a (i + 1) l D) (hi : i + 1 ≤ l) (hs : Shuf a (a + i) (swp D a (a + i)) D') (hH : HeapK K a 0 i D') : PopK K a i l D' := by
  obtain ⟨h1, h2, h3⟩ := h
  have top : ∀ q, i ≤ q → D' (a + q) = swp D a (a + i) (a + q) := fun q hq => hs.out _ (by omega)
  have big : D' (a + i) = D a := by rw [top i (Nat.le_refl _), swp_j]
  have oth : ∀ q, i < q → D' (a + q) = D (a + q) := fun q hq => by rw [top q (by omega), swp_o D (by omega) (by omega)]
  have low : ∀ p, p < i → ∃ p', p' < i + 1 ∧ p' ≠ 0 ∧ D' (a + p) = D (a + p') := fun p hp => by
    obtain ⟨j, j1, j2, e⟩ := hs.to_ (a + p) (by omega) (by omega)
    rw [e]
    by_cases hj : j = a
    · subst hj; exact ⟨i, by omega, by omega, swp_i _ _ _⟩
    · exact ⟨j - a, by omega, by omega, by rw [swp_o D hj (by omega), show a + (j - a) = j by omega]⟩
  refine ⟨hH, fun p q hp hpq hq => ?_, fun p q hp hq hql => ?_⟩
  · obtain ⟨p, rfl⟩ : ∃ p', p = a + p' := ⟨p - a, by omega⟩
    obtain ⟨q, rfl⟩ : ∃ q', q = a + q' := ⟨q - a, by omega⟩
    rw [oth q (by omega)]
    by_cases hpi : p = i
    · subst hpi; rw [big]
      have := h3 0 q (by omega) (by omega) (by omega)
      simpa using this
    · rw [oth p (by omega)]; exact h2 _ _ (by omega) hpq hq
  · obtain ⟨p', hp', h0, e⟩ := low p hp
    rw [e]
    by_cases hqi : q = i
    · subst hqi; rw [big]; exact heap_root h1 p' hp' h0
    · rw [oth q (by omega)]; exact h3 p' q hp' (by omega) hql
set_option maxHeartbeats 8000000 in
theorem heap_any (w0 : World) (blk off n cap M a b : Nat) (K : Nat → Int) (hp : Value) (D : Nat → Nat) (w : World) (hC : CmpOk w0 blk K M hp) (h : Srt w0 blk off n K M D w) (hab : a < b) (hb : b ≤ n) (hn : n ≤ 1000000000) :
    Calls Try.prog 39 #[.slice (some ⟨blk, off, none⟩) n cap, .int .i64 a, .int .i64 b, .func (.func 34) #[hp] #[]] w (SortPost w0 blk off n K M a b D) := by
  obtain ⟨l, hlb⟩ : ∃ l : Nat, (b : Int) - a = l := ⟨b - a, by omega⟩
  have hal : a + l = b := by omega
  have S0 := Lib.hid h
  have HSF : Hid (∀ (lo hi : Nat) (D : Nat → Nat) (w : World), Srt w0 blk off n K M D w → HeapK K a (lo + 1) hi D → lo ≤ hi → a + hi ≤ n → Calls Try.prog 49 #[.slice (some ⟨blk, off, none⟩) n cap, .int .i64 lo, .int .i64 hi, .int .i64 a, .func (.func 34) #[hp] #[]] w (SiftPost w0 blk off n K M a lo hi D)) :=
    fun lo hi D w hs hH hlo hbn => sift_any w0 blk off n cap M a lo hi K hp D w hC hs hH hlo hbn hn
  obtain ⟨m, hm⟩ : ∃ m : Nat, ((l : Int) - 1) / 2 = m := ⟨(l - 1) / 2, by omega⟩
  have hm2 : m + 1 ≤ l ∧ l ≤ 2 * m + 2 := by omega
  have HM := Lib.hid hm
  clear h hC hm
  go_enter Try.func39, Try.ntmps39
  go_wp2
  go_loopg [11] (m + 1) (fun g s11 wr => ∃ (i : Nat) (Di : Nat → Nat), s11 = .int .i64 ((i : Int) - 1) ∧ i ≤ g ∧ i ≤ l ∧ Hid (Srt w0 blk off n K M Di wr) ∧ Hid (Shuf a b D Di) ∧ Hid (HeapK K a i l Di))
  case atStart => exact ⟨m + 1, D, by rw [HM.out]; go_num, Nat.le_refl _, by omega, S0, Lib.hid (Shuf.refl _ _ _), Lib.hid (fun p c h1 h2 h3 => by unfold Chd at h2; omega)⟩
  case round =>
    obtain ⟨i, Di, rfl, hg, hil, S1, SH, HK⟩ := hrel
    by_cases h0 : i = 0
    · have hd : ¬ (0 : Int) ≤ (i : Int) - 1 := by omega
      have HK0 : Hid (PopK K a l l Di) := ⟨by have := HK.out; rwa [h0] at this, fun p q h1 h2 h3 => by omega, fun p q h1 h2 h3 => by omega⟩
      have e1 : (l : Int) - 1 = ((l : Nat) : Int) - 1 := rfl
      clear h0 HK hg hil
      go_wp2
      go_loopg [12] l (fun g s12 wr => ∃ (i : Nat) (Di : Nat → Nat), s12 = .int .i64 ((i : Int) - 1) ∧ i ≤ g ∧ i ≤ l ∧ Hid (Srt w0 blk off n K M Di wr) ∧ Hid (Shuf a b D Di) ∧ Hid (PopK K a i l Di))
      case atStart => exact ⟨l, Di, rfl, Nat.le_refl _, Nat.le_refl _, S1, SH, HK0⟩
      case round =>
        clear S1 SH HK0
        obtain ⟨i2, Dj, rfl, hg, hil, S1, SH, PK⟩ := hrel
        by_cases h0 : i2 = 0
        · have hd2 : ¬ (0 : Int) ≤ (i2 : Int) - 1 := by omega
          have FIN : Hid (SortedK K a b Dj) := by have := PK.out.2.1; rw [h0, hal] at this; exact this
          clear h0
          go_wp2
          go_end0
          exact ⟨rfl, Dj, S1.out, SH.out, FIN.out⟩
        · obtain ⟨ip, rfl⟩ : ∃ q, i2 = q + 1 := ⟨i2 - 1, by omega⟩
          have e2 : ((ip + 1 : Nat) : Int) - 1 = ip := by omega
          rw [e2]
          clear h0 e2 hd
          go_wp2_with fail
          obtain ⟨i1, hi1⟩ : ∃ q : Nat, q = a := ⟨_, rfl⟩
          have eai1 : ((a : Int)).toNat = i1 := by omega
          have pai1 : (0 : Int) ≤ (a : Int) := by omega
          have bai1 : (a : Int) < (n : Int) := by omega
          have rai1 : IntKind.i64.wrap ((a : Int)) = (a : Int) := by rw [IntKind.wrap_i64]; omega
          obtain ⟨j1, hj1⟩ : ∃ q : Nat, q = a + ip := ⟨_, rfl⟩
          have eaj1 : ((a : Int) + ip).toNat = j1 := by omega
          have paj1 : (0 : Int) ≤ (a : Int) + ip := by omega
          have baj1 : (a : Int) + ip < (n : Int) := by omega
          have raj1 : IntKind.i64.wrap ((a : Int) + ip) = (a : Int) + ip := by rw [IntKind.wrap_i64]; omega
          obtain ⟨x1, hx1⟩ : ∃ x, Dj (i1) = x := ⟨_, rfl⟩
          obtain ⟨y1, hy1⟩ : ∃ y, Dj (j1) = y := ⟨_, rfl⟩
          obtain ⟨c11, f11⟩ := S1.out.row i1 (by omega)
          obtain ⟨c21, f21⟩ := S1.out.row j1 (by omega)
          obtain ⟨u1, c31⟩ := S1.out.second (i := i1) (j := j1) (by omega) (by omega) (.int .i64 (y1 : Nat))
          have w3S : Hid (Srt w0 blk off n K M (swp Dj (a) (a + ip)) ((wr.setCell ⟨blk, off + i1, none⟩ (.int .i64 (y1 : Nat))).setCell ⟨blk, off + j1, none⟩ (.int .i64 (x1 : Nat))).drew) := by
            show Srt _ _ _ _ _ _ _ _
            rw [← hx1, ← hy1]
            subst hi1
            subst hj1
            exact (S1.out.swap (by omega) (by omega)).drewN 1
          rw [hx1] at c11
          rw [hy1] at c21
          clear hx1 hy1 hi1 hj1
          go_wp2_with fail
          go_region
          clear c11 c21 c31 f11 f21
          generalize ((wr.setCell ⟨blk, off + i1, none⟩ (.int .i64 (y1 : Nat))).setCell ⟨blk, off + j1, none⟩ (.int .i64 (x1 : Nat))).drew = w3 at w3S ⊢
          clear eai1 pai1 bai1 rai1 eaj1 paj1 baj1 raj1
          have HH1 : Hid (HeapK K a (0 + 1) ip (swp Dj a (a + ip))) := fun p c h1 h2 h3 => by
            rw [swp_o Dj (by unfold Chd at h2; omega) (by omega), swp_o Dj (by omega) (by unfold Chd at h2; omega)]
            exact PK.out.1 p c (Nat.zero_le _) h2 (by omega)
          go_wp2_with fail
          refine (show Calls Try.prog 49 #[.slice (some ⟨blk, off, none⟩) n cap, .int .i64 0, .int .i64 ip, .int .i64 a, .func (.func 34) #[hp] #[]] w3 (SiftPost w0 blk off n K M a 0 ip (swp Dj a (a + ip))) from HSF.out 0 ip _ w3 w3S.out HH1.out (Nat.zero_le _) (by omega)).mono ?_
          rintro e w4 ⟨rfl, Dk, s4, sh4, hk4⟩
          have S4 := Lib.hid s4
          have SH4 := Lib.hid sh4
          have PK4 : Hid (PopK K a ip l Dk) := pop_step PK.out (by omega) sh4 hk4
          clear s4 sh4 hk4
          go_wp2_with fail
          go_roundg ip
          case measure => omega
          case rel => exact ⟨ip, Dk, by go_num, Nat.le_refl _, by omega, S4, Lib.hid ((SH.out.trans (shuf_swp _ ⟨by omega, by omega⟩ ⟨by omega, by omega⟩)).trans (SH4.out.mono (by omega) (by omega))), PK4⟩
    · obtain ⟨ip, rfl⟩ : ∃ q, i = q + 1 := ⟨i - 1, by omega⟩
      have e2 : ((ip + 1 : Nat) : Int) - 1 = ip := by omega
      rw [e2]
      clear h0 e2
      go_wp2_with fail
      refine (HSF.out ip l Di wr S1.out HK.out (by omega) (by omega)).mono ?_
      rintro e w4 ⟨rfl, Dk, s4, sh4, hk4⟩
      have S4 := Lib.hid s4
      have SH4 := Lib.hid sh4
      have HK4 := Lib.hid hk4
      clear s4 sh4 hk4
      go_wp2_with fail
      go_roundg ip
      case measure => omega
      case rel => exact ⟨ip, Dk, by go_num, Nat.le_refl _, by omega, S4, Lib.hid (SH.out.trans (SH4.out.mono (by omega) (by omega))), HK4⟩
end Go.Proofs.Ytgfjfpfhalblgaa
