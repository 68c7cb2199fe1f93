/- What slices' choosePivot, reverseRange, breakPatterns (CmpFunc) do, with a method as the comparison. -/
import Derived.Test.YtgfjfpfhalblgaaHSb
namespace Go.Proofs.Ytgfjfpfhalblgaa
set_option maxRecDepth 1000000
open Go.ChangeShapes Go.WideShapes Go.ChangeAt Go.RowKit

/-- A place among those from a to b; some hint; the row as it was. -/
def PivPost (w0 : World) (blk off n : Nat) (K : Nat → Int) (M : Nat) (D : Nat → Nat) (a b : Nat) (e : Ending) (w' : World) : Prop :=
  ∃ (p : Nat) (h : Int), e = .returned (.tuple #[.int .i64 p, .int .i64 h]) ∧ a ≤ p ∧ p < b ∧ Srt w0 blk off n K M D w'
set_option maxHeartbeats 4000000 in
theorem pivot_any (w0 : World) (blk off n cap M a b : Nat) (K : Nat → Int) (hp : Value) (D : Nat → Nat) (w : World) (hC : CmpOk w0 blk K M hp) (h : Srt w0 blk off n K M D w) (hl : a + 8 ≤ b) (hb : b ≤ n) (hn : n ≤ 1000000000) :
    Calls Try.prog 41 #[.slice (some ⟨blk, off, none⟩) n cap, .int .i64 a, .int .i64 b, .func (.func 34) #[hp] #[]] w (PivPost w0 blk off n K M D a b) := by
  obtain ⟨l, hlb⟩ : ∃ l : Nat, (b : Int) - a = l := ⟨b - a, by omega⟩
  obtain ⟨q, hq⟩ : ∃ q, l / 4 = q := ⟨_, rfl⟩
  have hq4 : ((l : Int) / 4) = q := by omega
  have hqb : 4 * q ≤ l ∧ 2 ≤ q := by omega
  have hqc : 50 ≤ l → 12 ≤ q := by omega
  have S0 := Lib.hid h
  have HS : Hid (w0.heap.size ≤ w.heap.size ∧ w.heap.size ≠ blk) := ⟨h.on.size, by have := h.lt; omega⟩
  have HM : Hid (∀ (x y c : Nat) (z : Int) (w' : World), ReadAt w0 blk off n K M D w.heap.size z w' → x < n → y < n → c < n → 0 ≤ z → z ≤ 900 → Calls Try.prog 53 #[.slice (some ⟨blk, off, none⟩) n cap, .int .i64 x, .int .i64 y, .int .i64 c, .pointer (some ⟨w.heap.size, 0, none⟩), .func (.func 34) #[hp] #[]] w' (MedPost w0 blk off n K M D w.heap.size z x y c)) :=
    fun x y c z w' hr hx hy hc h0 h1 => median_any w0 blk off n cap M w.heap.size x y c z K hp D w' hC hr hx hy hc hn HS.out.1 HS.out.2 h0 h1
  have HA : Hid (∀ (x : Nat) (z : Int) (w' : World), ReadAt w0 blk off n K M D w.heap.size z w' → 1 ≤ x → x + 1 < n → 0 ≤ z → z ≤ 900 → Calls Try.prog 52 #[.slice (some ⟨blk, off, none⟩) n cap, .int .i64 x, .pointer (some ⟨w.heap.size, 0, none⟩), .func (.func 34) #[hp] #[]] w' (MedPost w0 blk off n K M D w.heap.size z (x - 1) x (x + 1))) :=
    fun x z w' hr hx hy h0 h1 => medadj_any w0 blk off n cap M w.heap.size x z K hp D w' hC hr hx hy hn HS.out.1 HS.out.2 h0 h1
  have R0 : Hid (ReadAt w0 blk off n K M D w.heap.size 0 (w.alloc (.cells #[.int .i64 0] 3))) := ⟨S0.out.fresh ((Below.refl _ _).alloc (Nat.le_refl _) _), boxU_new w .i64 0 3⟩
  have C1 : Hid (((a : Int) + q) = ((a + q : Nat) : Int)) := Lib.hid (by omega)
  have C2 : Hid (((a : Int) + q * 2) = ((a + q * 2 : Nat) : Int)) := Lib.hid (by omega)
  have C3 : Hid (((a : Int) + q * 3) = ((a + q * 3 : Nat) : Int)) := Lib.hid (by omega)
  have FIN : Hid (∀ (p : Nat) (z : Int) (w' : World), ReadAt w0 blk off n K M D w.heap.size z w' → w'.cell? ⟨w.heap.size, 0, none⟩ = some (.int .i64 z)) := fun p z w' hr => hr.2.c
  clear h hC hq
  go_enter Try.func41, Try.ntmps41
  by_cases h50 : 50 ≤ l
  · have hqd := hqc h50
    have h50' : (50 : Int) ≤ l := by omega
    have h8 : (8 : Int) ≤ l := by omega
    go_wp2_with fail
    rw [C1.out]
    refine (HA.out (a + q) 0 _ R0.out (by omega) (by omega) (by omega) (by omega)).mono ?_
    rintro e w1 ⟨p1, z1, rfl, o1, y1, y1', r1⟩
    have R1 := Lib.hid r1
    have hp1 : a + q - 1 ≤ p1 ∧ p1 ≤ a + q + 1 := by omega
    clear o1 r1
    go_wp2_with fail
    rw [C2.out]
    refine (HA.out (a + q * 2) z1 _ R1.out (by omega) (by omega) (by omega) (by omega)).mono ?_
    rintro e w2 ⟨p2, z2, rfl, o2, y2, y2', r2⟩
    have R2 := Lib.hid r2
    have hp2 : a + q * 2 - 1 ≤ p2 ∧ p2 ≤ a + q * 2 + 1 := by omega
    clear o2 r2
    go_wp2_with fail
    rw [C3.out]
    refine (HA.out (a + q * 3) z2 _ R2.out (by omega) (by omega) (by omega) (by omega)).mono ?_
    rintro e w3 ⟨p3, z3, rfl, o3, y3, y3', r3⟩
    have R3 := Lib.hid r3
    have hp3 : a + q * 3 - 1 ≤ p3 ∧ p3 ≤ a + q * 3 + 1 := by omega
    clear o3 r3
    go_wp2_with fail
    refine (HM.out p1 p2 p3 z3 _ R3.out (by omega) (by omega) (by omega) (by omega) (by omega)).mono ?_
    rintro e w4 ⟨p4, z4, rfl, o4, y4, y4', r4⟩
    have R4 := Lib.hid r4
    have hp4 : a ≤ p4 ∧ p4 < b := by omega
    have cz := r4.2.c
    clear o4 r4
    by_cases e0 : z4 = 0
    · have d0 : (z4 == 0) = true := by simp [e0]
      clear e0
      go_wp2
      go_ret2
      exact ⟨p4, _, rfl, hp4.1, hp4.2, R4.out.1⟩
    · have d0 : (z4 == 0) = false := by simp [e0]
      by_cases e1 : z4 = 12
      · have d1 : (z4 == 12) = true := by simp [e1]
        clear e0 e1
        go_wp2
        go_ret2
        exact ⟨p4, _, rfl, hp4.1, hp4.2, R4.out.1⟩
      · have d1 : (z4 == 12) = false := by simp [e1]
        clear e0 e1
        go_wp2
        go_ret2
        exact ⟨p4, _, rfl, hp4.1, hp4.2, R4.out.1⟩
  · have h50' : ¬ (50 : Int) ≤ l := by omega
    have h8 : (8 : Int) ≤ l := by omega
    go_wp2_with fail
    rw [C1.out, C2.out, C3.out]
    refine (HM.out (a + q) (a + q * 2) (a + q * 3) 0 _ R0.out (by omega) (by omega) (by omega) (by omega) (by omega)).mono ?_
    rintro e w4 ⟨p4, z4, rfl, o4, y4, y4', r4⟩
    have R4 := Lib.hid r4
    have hp4 : a ≤ p4 ∧ p4 < b := by omega
    have cz := r4.2.c
    clear o4 r4
    by_cases e0 : z4 = 0
    · have d0 : (z4 == 0) = true := by simp [e0]
      clear e0
      go_wp2
      go_ret2
      exact ⟨p4, _, rfl, hp4.1, hp4.2, R4.out.1⟩
    · have d0 : (z4 == 0) = false := by simp [e0]
      by_cases e1 : z4 = 12
      · have d1 : (z4 == 12) = true := by simp [e1]
        clear e0 e1
        go_wp2
        go_ret2
        exact ⟨p4, _, rfl, hp4.1, hp4.2, R4.out.1⟩
      · have d1 : (z4 == 12) = false := by simp [e1]
        clear e0 e1
        go_wp2
        go_ret2
        exact ⟨p4, _, rfl, hp4.1, hp4.2, R4.out.1⟩

/-- The row with other places. -/
def ShufPost (w0 : World) (blk off n : Nat) (K : Nat → Int) (M a b : Nat) (D : Nat → Nat) (e : Ending) (w' : World) : Prop :=
  e = .returned (.tuple #[]) ∧ ∃ D', Srt w0 blk off n K M D' w' ∧ Shuf a b D D'
set_option maxHeartbeats 4000000 in
theorem reverse_any (w0 : World) (blk off n cap M a b : Nat) (K : Nat → Int) (fv : Value) (D : Nat → Nat) (w : World) (h : Srt w0 blk off n K M D w) (hab : a < b) (hb : b ≤ n) (hn : n ≤ 1000000000) :
    Calls Try.prog 42 #[.slice (some ⟨blk, off, none⟩) n cap, .int .i64 a, .int .i64 b, fv] w (ShufPost w0 blk off n K M a b D) := by
  have S0 := Lib.hid h
  clear h
  go_enter Try.func42, Try.ntmps42
  go_wp2
  go_loopg [8, 9] (b - a) (fun g s8 s9 wr => ∃ (i j : Nat) (Di : Nat → Nat), s8 = .int .i64 i ∧ s9 = .int .i64 ((j : Int) - 1) ∧ a ≤ i ∧ j ≤ b ∧ j - i ≤ g ∧ Hid (Srt w0 blk off n K M Di wr) ∧ Hid (Shuf a b D Di))
  case atStart => exact ⟨a, b, D, rfl, rfl, Nat.le_refl _, Nat.le_refl _, Nat.le_refl _, S0, Lib.hid (Shuf.refl _ _ _)⟩
  case round =>
    obtain ⟨i, j, Di, rfl, rfl, hai, hjb, hg, S1, SH⟩ := hrel
    by_cases hlt : (i : Int) < (j : Int) - 1
    · obtain ⟨jp, rfl⟩ : ∃ q, j = q + 1 := ⟨j - 1, by omega⟩
      have e1 : ((jp + 1 : Nat) : Int) - 1 = jp := by omega
      rw [e1] at hlt ⊢
      have p6 : IntKind.i64.wrap (jp : Int) = jp := by rw [IntKind.wrap_i64]; omega
      clear e1
      go_wp2_with fail
      obtain ⟨i1, hi1⟩ : ∃ q : Nat, q = i := ⟨_, rfl⟩
      have eai1 : ((i : Int)).toNat = i1 := by omega
      have pai1 : (0 : Int) ≤ (i : Int) := by omega
      have bai1 : (i : Int) < (n : Int) := by omega
      have rai1 : IntKind.i64.wrap ((i : Int)) = (i : Int) := by rw [IntKind.wrap_i64]; omega
      obtain ⟨j1, hj1⟩ : ∃ q : Nat, q = jp := ⟨_, rfl⟩
      have eaj1 : ((jp : Int)).toNat = j1 := by omega
      have paj1 : (0 : Int) ≤ (jp : Int) := by omega
      have baj1 : (jp : Int) < (n : Int) := by omega
      have raj1 : IntKind.i64.wrap ((jp : Int)) = (jp : Int) := by rw [IntKind.wrap_i64]; omega
      obtain ⟨x1, hx1⟩ : ∃ x, Di (i1) = x := ⟨_, rfl⟩
      obtain ⟨y1, hy1⟩ : ∃ y, Di (j1) = y := ⟨_, rfl⟩
      obtain ⟨c11, f11⟩ := S1.out.row i1 (by omega)
      obtain ⟨c21, f21⟩ := S1.out.row j1 (by omega)
      obtain ⟨u1, c31⟩ := S1.out.second (i := i1) (j := j1) (by omega) (by omega) (.int .i64 (y1 : Nat))
      have w3S : Hid (Srt w0 blk off n K M (swp Di (i) (jp)) ((wr.setCell ⟨blk, off + i1, none⟩ (.int .i64 (y1 : Nat))).setCell ⟨blk, off + j1, none⟩ (.int .i64 (x1 : Nat))).drew) := by
        show Srt _ _ _ _ _ _ _ _
        rw [← hx1, ← hy1, ← hi1, ← hj1]
        exact (S1.out.swap (by omega) (by omega)).drewN 1
      rw [hx1] at c11
      rw [hy1] at c21
      clear hx1 hy1 hi1 hj1
      go_wp2_with fail
      go_region
      clear c11 c21 c31 f11 f21
      generalize ((wr.setCell ⟨blk, off + i1, none⟩ (.int .i64 (y1 : Nat))).setCell ⟨blk, off + j1, none⟩ (.int .i64 (x1 : Nat))).drew = w3 at w3S ⊢
      clear eai1 pai1 bai1 rai1 eaj1 paj1 baj1 raj1
      clear p6
      go_wp2_with fail
      go_roundg (jp - (i + 1))
      case measure => omega
      case rel => exact ⟨i + 1, jp, swp Di i jp, by go_num, rfl, by omega, by omega, Nat.le_refl _, w3S, Lib.hid (SH.out.trans (shuf_swp _ ⟨by omega, by omega⟩ ⟨by omega, by omega⟩))⟩
    · go_wp2
      go_end0
      exact ⟨rfl, Di, S1.out, SH.out⟩

end Go.Proofs.Ytgfjfpfhalblgaa
