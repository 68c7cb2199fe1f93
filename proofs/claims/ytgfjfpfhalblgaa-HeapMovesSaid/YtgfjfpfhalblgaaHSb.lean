/- What bits.Len, slices.nextPowerOfTwo, (*slices.xorshift).Next, and slices' order2, median, medianAdjacent, choosePivot, reverseRange, breakPatterns (CmpFunc) do, with a method as the comparison. -/
import Derived.Test.YtgfjfpfhalblgaaHSa
import Derived.Test.YtgfjfpfhalblgaaBLen
import Derived.Laws.BitsAllLaws
namespace Go.Proofs.Ytgfjfpfhalblgaa
set_option maxRecDepth 1000000
open Go.ChangeShapes Go.WideShapes Go.ChangeAt Go.RowKit

theorem len_any (x : Int) (w : World) (h0 : 0 ≤ x) (hx : x < 18446744073709551616) : Calls Try.prog 36 #[.int .u64 x] w fun e w' => e = .returned (.int .i64 (Lib.bitLen x.toNat)) ∧ w = w' := by
  have HL := Lib.hid (len64_any x w h0 hx)
  go_enter Try.func36, Try.ntmps36
  go_wp2_with (go_at_call 47; refine HL.out.mono ?_; rintro e w1 ⟨rfl, rfl⟩)
  go_ret
  exact ⟨rfl, rfl⟩
theorem bitLen_pow {x : Nat} (h0 : 0 < x) (h : x < 1048576) : ∃ s, Lib.bitLen x = s ∧ s ≤ 20 ∧ 2 ^ s ≤ 2 * x ∧ 1 ≤ 2 ^ s := by
  obtain ⟨k, h1, h2, h3⟩ := bitLen_bit x (by omega) (by omega)
  have hk : 2 ^ k ≤ x := Nat.ge_two_pow_of_testBit h2
  have hk20 : k < 20 := by
    rcases Nat.lt_or_ge k 20 with h | h
    · exact h
    · have := Nat.pow_le_pow_right (show 0 < 2 by omega) h
      omega
  refine ⟨k + 1, h1, by omega, ?_, Nat.pos_of_ne_zero (by simp)⟩
  rw [Nat.pow_succ]; omega
/-- A power of two, not above twice n. -/
def PowPost (n : Nat) (w : World) (e : Ending) (w' : World) : Prop := ∃ q : Nat, e = .returned (.int .u64 q) ∧ 1 ≤ q ∧ q ≤ 2 * n ∧ w = w'
theorem power_any (n : Nat) (w : World) (h0 : 0 < n) (hn : n < 1048576) : Calls Try.prog 50 #[.int .i64 n] w (PowPost n w) := by
  obtain ⟨s, h1, h2, h3, h4⟩ := bitLen_pow h0 hn
  have HL := Lib.hid (len_any n w (by omega) (by omega))
  rw [Int.toNat_natCast, h1] at HL
  have hs : (s : Int) ≤ 20 := by omega
  have hp : IntKind.u64.wrap (2 ^ s) = ((2 ^ s : Nat) : Int) := by
    have h5 : (2 : Nat) ^ s ≤ 2097152 := by omega
    have e : ((2 : Int) ^ s) = ((2 ^ s : Nat) : Int) := by simp
    rw [e, IntKind.wrap_u64]; omega
  have H3 := Lib.hid h3
  have H4 := Lib.hid h4
  clear h1 h3 h4
  generalize (2 : Nat) ^ s = q at hp H3 H4
  go_enter Try.func50, Try.ntmps50
  go_wp2_with (go_at_call 36; refine HL.out.mono ?_; rintro e w1 ⟨rfl, rfl⟩)
  go_ret
  exact ⟨q, by first | rfl | (rw [hp]; rfl), H4.out, H3.out, rfl⟩

/-- A box of one word. -/
structure BoxU (w : World) (s : Nat) (k : IntKind) (z : Int) : Prop where
  c : w.cell? ⟨s, 0, none⟩ = some (.int k z)
  f : w.frozen? ⟨s, 0, none⟩ = false
theorem BoxU.drewN {w : World} {s : Nat} {k : IntKind} {z : Int} (h : BoxU w s k z) (q : Nat) : BoxU (w.drewN q) s k z := ⟨h.c, h.f⟩
theorem BoxU.put {w : World} {s : Nat} {k : IntKind} {z : Int} (h : BoxU w s k z) (z' : Int) : BoxU (w.setCell ⟨s, 0, none⟩ (.int k z')) s k z' := ⟨World.cell?_setCell_same _ _ _ h.c, by rw [World.frozen?_setCell]; exact h.f⟩
theorem boxU_new (w : World) (k : IntKind) (z : Int) (t : TypeId) : BoxU (w.alloc (.cells #[.int k z] t)) w.heap.size k z :=
  ⟨by rw [World.cell?_alloc_at _ _ _ _ rfl]; rfl, by
    have h : (w.alloc (.cells #[.int k z] t)).heap[w.heap.size]? = some (.cells #[.int k z] t) := heap_alloc_new w _
    unfold World.frozen?
    simp only [h]
    simp⟩
/-- The next number: some number; the box holds it. -/
def NextPost (s : Nat) (w : World) (e : Ending) (w' : World) : Prop := ∃ x y r q : Nat, e = .returned (.int .u64 r) ∧ r < 18446744073709551616 ∧ w' = (((w.setCell ⟨s, 0, none⟩ (.int .u64 x)).setCell ⟨s, 0, none⟩ (.int .u64 y)).setCell ⟨s, 0, none⟩ (.int .u64 r)).drewN q
set_option maxHeartbeats 1000000 in
theorem next_any (s X : Nat) (hX : X < 18446744073709551616) (w : World) (h : BoxU w s .u64 X) : Calls Try.prog 51 #[.pointer (some ⟨s, 0, none⟩)] w (NextPost s w) := by
  obtain ⟨A, hA⟩ : ∃ A : Nat, A = X ^^^ (X * 8192 % 18446744073709551616) := ⟨_, rfl⟩
  obtain ⟨B, hB⟩ : ∃ B : Nat, B = A ^^^ (A / 128) := ⟨_, rfl⟩
  obtain ⟨C, hC⟩ : ∃ C : Nat, C = B ^^^ (B * 131072 % 18446744073709551616) := ⟨_, rfl⟩
  have lA : A < 18446744073709551616 := by rw [hA]; exact Nat.xor_lt_two_pow (n := 64) (by omega) (by omega)
  have lB : B < 18446744073709551616 := by rw [hB]; exact Nat.xor_lt_two_pow (n := 64) (by omega) (by omega)
  have lC : C < 18446744073709551616 := by rw [hC]; exact Nat.xor_lt_two_pow (n := 64) (by omega) (by omega)
  have e1 : bits .xor .u64 (X : Int) (IntKind.u64.wrap ((X : Int) * 8192)) = (A : Int) := by
    rw [IntKind.wrap_u64, show ((X : Int) * 8192 % 18446744073709551616) = ((X * 8192 % 18446744073709551616 : Nat) : Int) by omega, u64_xor_nat _ _ hX (by omega), hA]
  have e2 : bits .xor .u64 (A : Int) ((A : Int) / 128) = (B : Int) := by
    rw [show ((A : Int) / 128) = ((A / 128 : Nat) : Int) by omega, u64_xor_nat _ _ lA (by omega), hB]
  have e3 : bits .xor .u64 (B : Int) (IntKind.u64.wrap ((B : Int) * 131072)) = (C : Int) := by
    rw [IntKind.wrap_u64, show ((B : Int) * 131072 % 18446744073709551616) = ((B * 131072 % 18446744073709551616 : Nat) : Int) by omega, u64_xor_nat _ _ lB (by omega), hC]
  have HLC := Lib.hid lC
  clear hA hB hC
  obtain ⟨hc, hf⟩ := h
  have hA1 := World.cell?_setCell_same w ⟨s, 0, none⟩ (.int .u64 (A : Int)) hc
  have hB1 := World.cell?_setCell_same (w.setCell ⟨s, 0, none⟩ (.int .u64 (A : Int))) ⟨s, 0, none⟩ (.int .u64 (B : Int)) hA1
  have hC1 := World.cell?_setCell_same ((w.setCell ⟨s, 0, none⟩ (.int .u64 (A : Int))).setCell ⟨s, 0, none⟩ (.int .u64 (B : Int))) ⟨s, 0, none⟩ (.int .u64 (C : Int)) hB1
  go_enter Try.func51, Try.ntmps51
  go_wp2
  go_region
  all_goals go_wp2
  all_goals go_region
  all_goals go_wp2
  all_goals go_region
  all_goals go_wp2
  all_goals (go_ret; exact ⟨A, B, C, 3, rfl, HLC.out, rfl⟩)

/-! Reading alone: which of two, of three. -/
section
variable {w0 w w' : World} {blk off n M : Nat} {K : Nat → Int} {D : Nat → Nat}
theorem Srt.box (h : Srt w0 blk off n K M D w) {s : Nat} (hs : w0.heap.size ≤ s) (hne : s ≠ blk) (j : Nat) (u : Value) : Srt w0 blk off n K M D (w.setCell ⟨s, j, none⟩ u) :=
  ⟨fun i hi => ⟨by rw [World.cell?_setCell_other _ _ _ _ (by intro e; injection e with e1; exact hne e1)]; exact (h.row i hi).1, by rw [World.frozen?_setCell]; exact (h.row i hi).2⟩, h.on.setCell ⟨s, j, none⟩ (.inr hs) u, h.ky, by simpa [World.setCell] using h.lt⟩
end
/-- What the reading ones leave: the row, and the count of exchanges. -/
def ReadAt (w0 : World) (blk off n : Nat) (K : Nat → Int) (M : Nat) (D : Nat → Nat) (s : Nat) (z : Int) (w' : World) : Prop := Srt w0 blk off n K M D w' ∧ BoxU w' s .i64 z
def O2Post (w0 : World) (blk off n : Nat) (K : Nat → Int) (M : Nat) (D : Nat → Nat) (s : Nat) (z : Int) (a b : Nat) (e : Ending) (w' : World) : Prop :=
  ∃ (p q : Nat) (z' : Int), e = .returned (.tuple #[.int .i64 p, .int .i64 q]) ∧ ((p = a ∧ q = b) ∨ (p = b ∧ q = a)) ∧ z ≤ z' ∧ z' ≤ z + 1 ∧ ReadAt w0 blk off n K M D s z' w'
set_option maxHeartbeats 2000000 in
theorem order2_any (w0 : World) (blk off n cap M s a b : Nat) (z : Int) (K : Nat → Int) (hp : Value) (D : Nat → Nat) (w : World) (hC : CmpOk w0 blk K M hp) (h : ReadAt w0 blk off n K M D s z w) (ha : a < n) (hb : b < n) (hn : n ≤ 1000000000) (hs : w0.heap.size ≤ s) (hne : s ≠ blk) (hz0 : 0 ≤ z) (hz1 : z ≤ 1000) :
    Calls Try.prog 54 #[.slice (some ⟨blk, off, none⟩) n cap, .int .i64 a, .int .i64 b, .pointer (some ⟨s, 0, none⟩), .func (.func 34) #[hp] #[]] w (O2Post w0 blk off n K M D s z a b) := by
  have HC := Lib.hid hC
  have S0 := Lib.hid h.1
  have X0 := Lib.hid h.2
  have eg := eg34
  clear h hC
  by_cases hl : K (D b) < K (D a)
  · have HLT := Lib.hid hl
    clear hl
    go_enter Try.func54, Try.ntmps54
    obtain ⟨i1, hi1⟩ : ∃ q : Nat, q = b := ⟨_, rfl⟩
    have eai1 : ((b : Int)).toNat = i1 := by omega
    have pai1 : (0 : Int) ≤ (b : Int) := by omega
    have bai1 : (b : Int) < (n : Int) := by omega
    have rai1 : IntKind.i64.wrap ((b : Int)) = (b : Int) := by rw [IntKind.wrap_i64]; omega
    obtain ⟨j1, hj1⟩ : ∃ q : Nat, q = a := ⟨_, rfl⟩
    have eaj1 : ((a : Int)).toNat = j1 := by omega
    have paj1 : (0 : Int) ≤ (a : Int) := by omega
    have baj1 : (a : Int) < (n : Int) := by omega
    have raj1 : IntKind.i64.wrap ((a : Int)) = (a : Int) := by rw [IntKind.wrap_i64]; omega
    obtain ⟨x1, hx1⟩ : ∃ x, D (i1) = x := ⟨_, rfl⟩
    obtain ⟨y1, hy1⟩ : ∃ y, D (j1) = y := ⟨_, rfl⟩
    obtain ⟨c11, f11⟩ := S0.out.row i1 (by omega)
    obtain ⟨c21, f21⟩ := S0.out.row j1 (by omega)
    have hxM1 : x1 < M := by rw [← hx1]; exact S0.out.ky.el _ (by omega)
    have hyM1 : y1 < M := by rw [← hy1]; exact S0.out.ky.el _ (by omega)
    rw [hx1] at c11
    rw [hy1] at c21
    have HCL1 := Lib.hid (fun q => HC.out (w.drewN q) x1 y1 (S0.out.on.drewN q) hxM1 hyM1)
    have hz1 : decide (cmpK K x1 y1 < 0) = true := by
      rw [← hx1, ← hy1, hi1, hj1]
      exact decide_eq_true (cmpK_lt.2 HLT.out)
    clear hx1 hy1 hxM1 hyM1 hi1 hj1
    generalize cmpK K x1 y1 = z1 at hz1 HCL1
    go_wp2_with fail
    go_quiet ((go_at_fn 34; exact Calls.quiet_of (HCL1.out _)))
    have w2S := Lib.hid (S0.out.drewN nq)
    clear c11 c21 f11 f21 HCL1
    have X2 := Lib.hid (X0.out.drewN nq)
    generalize w.drewN nq = w2 at w2S X2 ⊢
    clear nq
    clear eai1 pai1 bai1 rai1 eaj1 paj1 baj1 raj1
    obtain ⟨b0, b1⟩ := X2.out
    have R3 := Lib.hid (show ReadAt w0 blk off n K M D s (z + 1) _ from ⟨w2S.out.box hs hne 0 (.int .i64 (z + 1)), X2.out.put (z + 1)⟩)
    go_wp2
    go_ret2
    exact ⟨b, a, z + 1, rfl, .inr ⟨rfl, rfl⟩, by omega, by omega, R3.out⟩
  · have HLT := Lib.hid hl
    clear hl
    go_enter Try.func54, Try.ntmps54
    obtain ⟨i2, hi2⟩ : ∃ q : Nat, q = b := ⟨_, rfl⟩
    have eai2 : ((b : Int)).toNat = i2 := by omega
    have pai2 : (0 : Int) ≤ (b : Int) := by omega
    have bai2 : (b : Int) < (n : Int) := by omega
    have rai2 : IntKind.i64.wrap ((b : Int)) = (b : Int) := by rw [IntKind.wrap_i64]; omega
    obtain ⟨j2, hj2⟩ : ∃ q : Nat, q = a := ⟨_, rfl⟩
    have eaj2 : ((a : Int)).toNat = j2 := by omega
    have paj2 : (0 : Int) ≤ (a : Int) := by omega
    have baj2 : (a : Int) < (n : Int) := by omega
    have raj2 : IntKind.i64.wrap ((a : Int)) = (a : Int) := by rw [IntKind.wrap_i64]; omega
    obtain ⟨x2, hx2⟩ : ∃ x, D (i2) = x := ⟨_, rfl⟩
    obtain ⟨y2, hy2⟩ : ∃ y, D (j2) = y := ⟨_, rfl⟩
    obtain ⟨c12, f12⟩ := S0.out.row i2 (by omega)
    obtain ⟨c22, f22⟩ := S0.out.row j2 (by omega)
    have hxM2 : x2 < M := by rw [← hx2]; exact S0.out.ky.el _ (by omega)
    have hyM2 : y2 < M := by rw [← hy2]; exact S0.out.ky.el _ (by omega)
    rw [hx2] at c12
    rw [hy2] at c22
    have HCL2 := Lib.hid (fun q => HC.out (w.drewN q) x2 y2 (S0.out.on.drewN q) hxM2 hyM2)
    have hz2 : decide (cmpK K x2 y2 < 0) = false := by
      rw [← hx2, ← hy2, hi2, hj2]
      exact decide_eq_false (fun h => HLT.out (cmpK_lt.1 h))
    clear hx2 hy2 hxM2 hyM2 hi2 hj2
    generalize cmpK K x2 y2 = z2 at hz2 HCL2
    go_wp2_with fail
    go_quiet ((go_at_fn 34; exact Calls.quiet_of (HCL2.out _)))
    have w2S := Lib.hid (S0.out.drewN nq)
    clear c12 c22 f12 f22 HCL2
    have X2 := Lib.hid (X0.out.drewN nq)
    generalize w.drewN nq = w2 at w2S X2 ⊢
    clear nq
    clear eai2 pai2 bai2 rai2 eaj2 paj2 baj2 raj2
    go_wp2
    go_ret2
    exact ⟨a, b, z, rfl, .inl ⟨rfl, rfl⟩, by omega, by omega, w2S.out, X2.out⟩
def MedPost (w0 : World) (blk off n : Nat) (K : Nat → Int) (M : Nat) (D : Nat → Nat) (s : Nat) (z : Int) (a b c : Nat) (e : Ending) (w' : World) : Prop :=
  ∃ (p : Nat) (z' : Int), e = .returned (.int .i64 p) ∧ (p = a ∨ p = b ∨ p = c) ∧ z ≤ z' ∧ z' ≤ z + 3 ∧ ReadAt w0 blk off n K M D s z' w'
set_option maxHeartbeats 2000000 in
theorem median_any (w0 : World) (blk off n cap M s a b c : Nat) (z : Int) (K : Nat → Int) (hp : Value) (D : Nat → Nat) (w : World) (hC : CmpOk w0 blk K M hp) (h : ReadAt w0 blk off n K M D s z w) (ha : a < n) (hb : b < n) (hc : c < n) (hn : n ≤ 1000000000) (hs : w0.heap.size ≤ s) (hne : s ≠ blk) (hz0 : 0 ≤ z) (hz1 : z ≤ 900) :
    Calls Try.prog 53 #[.slice (some ⟨blk, off, none⟩) n cap, .int .i64 a, .int .i64 b, .int .i64 c, .pointer (some ⟨s, 0, none⟩), .func (.func 34) #[hp] #[]] w (MedPost w0 blk off n K M D s z a b c) := by
  have HO : Hid (∀ (a b : Nat) (z : Int) (w : World), ReadAt w0 blk off n K M D s z w → a < n → b < n → 0 ≤ z → z ≤ 1000 → Calls Try.prog 54 #[.slice (some ⟨blk, off, none⟩) n cap, .int .i64 a, .int .i64 b, .pointer (some ⟨s, 0, none⟩), .func (.func 34) #[hp] #[]] w (O2Post w0 blk off n K M D s z a b)) :=
    fun a b z w h ha hb h0 h1 => order2_any w0 blk off n cap M s a b z K hp D w hC h ha hb hn hs hne h0 h1
  have R0 := Lib.hid h
  clear h hC
  go_enter Try.func53, Try.ntmps53
  go_wp2_with fail
  refine (HO.out a b z w R0.out ha hb hz0 (by omega)).mono ?_
  rintro e w1 ⟨p1, q1, z1, rfl, o1, y1, y1', r1⟩
  have O1 := Lib.hid o1
  have R1 := Lib.hid r1
  have hp1 : p1 < n := by rcases o1 with ⟨h1, h2⟩ | ⟨h1, h2⟩ <;> omega
  have hq1 : q1 < n := by rcases o1 with ⟨h1, h2⟩ | ⟨h1, h2⟩ <;> omega
  clear o1 r1
  go_wp2_with fail
  refine (HO.out q1 c z1 w1 R1.out hq1 hc (by omega) (by omega)).mono ?_
  rintro e w2 ⟨p2, q2, z2, rfl, o2, y2, y2', r2⟩
  have O2 := Lib.hid o2
  have R2 := Lib.hid r2
  have hp2 : p2 < n := by rcases o2 with ⟨h1, h2⟩ | ⟨h1, h2⟩ <;> omega
  clear o2 r2
  go_wp2_with fail
  refine (HO.out p1 p2 z2 w2 R2.out hp1 hp2 (by omega) (by omega)).mono ?_
  rintro e w3 ⟨p3, q3, z3, rfl, o3, y3, y3', r3⟩
  have O3 := Lib.hid o3
  have R3 := Lib.hid r3
  clear o3 r3
  go_wp2
  go_ret
  refine ⟨q3, z3, rfl, ?_, by omega, by omega, R3.out⟩
  rcases O1.out with ⟨a1, a2⟩ | ⟨a1, a2⟩ <;> rcases O2.out with ⟨a3, a4⟩ | ⟨a3, a4⟩ <;> rcases O3.out with ⟨a5, a6⟩ | ⟨a5, a6⟩ <;> omega
set_option maxHeartbeats 1000000 in
theorem medadj_any (w0 : World) (blk off n cap M s a : Nat) (z : Int) (K : Nat → Int) (hp : Value) (D : Nat → Nat) (w : World) (hC : CmpOk w0 blk K M hp) (h : ReadAt w0 blk off n K M D s z w) (ha : 1 ≤ a) (hb : a + 1 < n) (hn : n ≤ 1000000000) (hs : w0.heap.size ≤ s) (hne : s ≠ blk) (hz0 : 0 ≤ z) (hz1 : z ≤ 900) :
    Calls Try.prog 52 #[.slice (some ⟨blk, off, none⟩) n cap, .int .i64 a, .pointer (some ⟨s, 0, none⟩), .func (.func 34) #[hp] #[]] w (MedPost w0 blk off n K M D s z (a - 1) a (a + 1)) := by
  have HM := Lib.hid (median_any w0 blk off n cap M s (a - 1) a (a + 1) z K hp D w hC h (by omega) (by omega) hb hn hs hne hz0 hz1)
  have e1 : ((a - 1 : Nat) : Int) = (a : Int) - 1 := by omega
  have e2 : ((a + 1 : Nat) : Int) = (a : Int) + 1 := by omega
  rw [e1, e2] at HM
  clear h hC e1 e2
  go_enter Try.func52, Try.ntmps52
  go_wp2_with fail
  refine HM.out.mono ?_
  rintro e w1 ⟨p, z1, rfl, o1, y1, y1', r1⟩
  have O1 := Lib.hid o1
  have R1 := Lib.hid r1
  clear o1 r1
  go_wp2
  go_ret
  exact ⟨p, z1, rfl, O1.out, y1, y1', R1.out⟩
end Go.Proofs.Ytgfjfpfhalblgaa
