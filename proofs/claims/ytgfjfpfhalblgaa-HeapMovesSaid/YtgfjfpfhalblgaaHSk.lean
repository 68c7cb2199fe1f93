/- What slices' breakPatternsCmpFunc does. -/
import Derived.Test.YtgfjfpfhalblgaaHSg
namespace Go.Proofs.Ytgfjfpfhalblgaa
set_option maxRecDepth 1000000
open Go.ChangeShapes Go.WideShapes Go.ChangeAt Go.RowKit

theorem BoxU.far {w : World} {s : Nat} {k : IntKind} {z : Int} (h : BoxU w s k z) {blk i j : Nat} {u u' : Value} (hne : s ≠ blk) : BoxU ((w.setCell ⟨blk, i, none⟩ u).setCell ⟨blk, j, none⟩ u').drew s k z :=
  (show BoxU ((w.setCell ⟨blk, i, none⟩ u).setCell ⟨blk, j, none⟩ u') s k z from ⟨by rw [World.cell?_setCell_other _ _ _ _ (by intro e; injection e with e1; exact hne e1.symm), World.cell?_setCell_other _ _ _ _ (by intro e; injection e with e1; exact hne e1.symm)]; exact h.c, by rw [World.frozen?_setCell, World.frozen?_setCell]; exact h.f⟩).drewN 1
def BrkInv (w0 : World) (blk off n : Nat) (K : Nat → Int) (M a b s : Nat) (D : Nat → Nat) (wr : World) : Prop :=
  ∃ (X : Nat) (Di : Nat → Nat), X < 18446744073709551616 ∧ BoxU wr s .u64 X ∧ Srt w0 blk off n K M Di wr ∧ Shuf a b D Di
set_option maxHeartbeats 4000000 in
theorem break_any (w0 : World) (blk off n cap M a b : Nat) (K : Nat → Int) (fv : Value) (D : Nat → Nat) (w : World) (h : Srt w0 blk off n K M D w) (hl : a + 8 ≤ b) (hb : b ≤ n) (hn : n ≤ 1000000) :
    Calls Try.prog 40 #[.slice (some ⟨blk, off, none⟩) n cap, .int .i64 a, .int .i64 b, fv] w (ShufPost w0 blk off n K M a b D) := by
  obtain ⟨l, hlb⟩ : ∃ l : Nat, (b : Int) - a = l := ⟨b - a, by omega⟩
  obtain ⟨q, hq⟩ : ∃ q, l / 4 = q := ⟨_, rfl⟩
  have hq4 : ((l : Int) / 4) = q := by omega
  have hqb : 4 * q ≤ l ∧ 2 ≤ q := by omega
  have h8 : (8 : Int) ≤ l := by omega
  have S0 := Lib.hid h
  have HS : Hid (w0.heap.size ≤ w.heap.size ∧ w.heap.size ≠ blk) := ⟨h.on.size, by have := h.lt; omega⟩
  have HP := Lib.hid (fun w' => power_any l w' (by omega) (by omega))
  have lq : l < 18446744073709551616 := by omega
  have hcv : IntKind.u64.wrap (l : Int) = l := by rw [IntKind.wrap_u64]; omega
  have I0 : Hid (BrkInv w0 blk off n K M a b w.heap.size D (w.alloc (.cells #[.int .u64 (l : Int)] 82))) := ⟨l, D, lq, boxU_new w .u64 l 82, S0.out.fresh ((Below.refl _ _).alloc (Nat.le_refl _) _), Shuf.refl _ _ _⟩
  clear h hq
  go_enter Try.func40, Try.ntmps40
  go_wp2_with fail
  refine (HP.out _).mono ?_
  rintro e w1 ⟨m, rfl, hm1, hm2, rfl⟩
  obtain ⟨mp, rfl⟩ : ∃ mp, m = mp + 1 := ⟨m - 1, by omega⟩
  clear HP
  go_wp2_with fail
  go_loopg [11] 3 (fun g s11 wr => ∃ t : Nat, s11 = .int .i64 ((a : Int) + q * 2 - 1 + t) ∧ t ≤ 3 ∧ 3 ≤ t + g ∧ Hid (BrkInv w0 blk off n K M a b w.heap.size D wr))
  case atStart => exact ⟨0, by go_num, by omega, by omega, I0⟩
  case round =>
    obtain ⟨t, rfl, ht, hg, IN⟩ := hrel
    by_cases hlt : t < 3
    · obtain ⟨X, Di, hX, hbx, hs, hsh⟩ := IN.out
      have hd : decide ((a : Int) + q * 2 - 1 + t ≤ (a : Int) + q * 2 + 1) = true := decide_eq_true (by omega)
      obtain ⟨xi, hxi⟩ : ∃ xi : Nat, (a : Int) + q * 2 - 1 + t = xi := ⟨a + q * 2 - 1 + t, by omega⟩
      have HXI : Hid ((a : Int) + q * 2 - 1 + t = xi) := hxi
      have S1 := Lib.hid hs
      have SH := Lib.hid hsh
      rw [hxi] at hd ⊢
      have hxr : a ≤ xi ∧ xi < b := by omega
      have BX := Lib.hid hbx
      clear hbx hs hsh hxi
      go_wp2_with fail
      refine (next_any w.heap.size X hX wr BX.out).mono ?_
      rintro e w2 ⟨x1, y1, r, qd, rfl, hr, hw2⟩
      have BX2 : Hid (BoxU w2 w.heap.size .u64 r) := by show BoxU _ _ _ _; rw [hw2]; exact (((BX.out.put x1).put y1).put r).drewN qd
      have S2 : Hid (Srt w0 blk off n K M Di w2) := by show Srt _ _ _ _ _ _ _ _; rw [hw2]; exact (((S1.out.box HS.out.1 HS.out.2 0 (.int .u64 (x1 : Int))).box HS.out.1 HS.out.2 0 (.int .u64 (y1 : Int))).box HS.out.1 HS.out.2 0 (.int .u64 (r : Int))).drewN qd
      have HRX := Lib.hid hr
      have hand : bits .and .u64 (r : Int) (mp : Int) = ((r &&& mp : Nat) : Int) := u64_and_nat r mp hr (by omega)
      have hol : r &&& mp ≤ mp := Nat.and_le_right
      generalize r &&& mp = o at hand hol
      have ho2 : (o : Int) < 2 * l := by omega
      clear hw2 BX S1 hr IN hX
      by_cases hol2 : o < l
      · have hge : ¬ (l : Int) ≤ o := by omega
        have hob : o < l := by omega
        obtain ⟨aj, haj⟩ : ∃ aj : Nat, (a : Int) + (o : Int) = aj := ⟨a + (o), by omega⟩
        have hajb : a ≤ aj ∧ aj < b := by omega
        have HAJ := Lib.hid haj
        have p6 : IntKind.i64.wrap ((a : Int) + (o : Int)) = aj := by rw [IntKind.wrap_i64]; omega
        have p7 : IntKind.i64.wrap (aj : Int) = aj := by rw [IntKind.wrap_i64]; omega
        have p8 : IntKind.i64.wrap (xi : Int) = xi := by rw [IntKind.wrap_i64]; omega
        go_wp2_with fail
        obtain ⟨i1, hi1⟩ : ∃ q : Nat, q = xi := ⟨_, rfl⟩
        have eai1 : ((xi : Int)).toNat = i1 := by omega
        have pai1 : (0 : Int) ≤ (xi : Int) := by omega
        have bai1 : (xi : Int) < (n : Int) := by omega
        have rai1 : IntKind.i64.wrap ((xi : Int)) = (xi : Int) := by rw [IntKind.wrap_i64]; omega
        obtain ⟨j1, hj1⟩ : ∃ q : Nat, q = aj := ⟨_, rfl⟩
        have eaj1 : ((aj : Int)).toNat = j1 := by omega
        have paj1 : (0 : Int) ≤ (aj : Int) := by omega
        have baj1 : (aj : Int) < (n : Int) := by omega
        have raj1 : IntKind.i64.wrap ((aj : Int)) = (aj : Int) := by rw [IntKind.wrap_i64]; omega
        obtain ⟨x1, hx1⟩ : ∃ x, Di (i1) = x := ⟨_, rfl⟩
        obtain ⟨y1, hy1⟩ : ∃ y, Di (j1) = y := ⟨_, rfl⟩
        obtain ⟨c11, f11⟩ := S2.out.row i1 (by omega)
        obtain ⟨c21, f21⟩ := S2.out.row j1 (by omega)
        obtain ⟨u1, c31⟩ := S2.out.second (i := i1) (j := j1) (by omega) (by omega) (.int .i64 (y1 : Nat))
        have w3S : Hid (Srt w0 blk off n K M (swp Di (xi) (aj)) ((w2.setCell ⟨blk, off + i1, none⟩ (.int .i64 (y1 : Nat))).setCell ⟨blk, off + j1, none⟩ (.int .i64 (x1 : Nat))).drew) := by
          show Srt _ _ _ _ _ _ _ _
          rw [← hx1, ← hy1, ← hi1, ← hj1]
          exact (S2.out.swap (by omega) (by omega)).drewN 1
        rw [hx1] at c11
        rw [hy1] at c21
        clear hx1 hy1 hi1 hj1
        go_wp2_with fail
        go_region
        clear c11 c21 c31 f11 f21
        have BXL : Hid (BoxU ((w2.setCell ⟨blk, off + i1, none⟩ (.int .i64 (y1 : Nat))).setCell ⟨blk, off + j1, none⟩ (.int .i64 (x1 : Nat))).drew w.heap.size .u64 r) := BX2.out.far HS.out.2
        generalize ((w2.setCell ⟨blk, off + i1, none⟩ (.int .i64 (y1 : Nat))).setCell ⟨blk, off + j1, none⟩ (.int .i64 (x1 : Nat))).drew = w3 at w3S BXL ⊢
        clear eai1 pai1 bai1 rai1 eaj1 paj1 baj1 raj1
        have BX3 : Hid (BoxU w3 w.heap.size .u64 r) := BXL.out
        clear p6 p7 p8 haj
        go_wp2_with fail
        go_roundg (3 - (t + 1))
        case measure => omega
        case rel =>
          refine ⟨t + 1, ?_, by omega, by omega, Lib.hid ⟨r, _, HRX.out, BX3.out, w3S.out, SH.out.trans (shuf_swp _ hxr hajb)⟩⟩
          have := HXI.out
          first | (congr 1; omega) | (simp only [Value.int.injEq, true_and]; omega)
      
      · have hge : (l : Int) ≤ o := by omega
        have hob : o - l < l := by omega
        obtain ⟨aj, haj⟩ : ∃ aj : Nat, (a : Int) + ((o : Int) - l) = aj := ⟨a + (o - l), by omega⟩
        have hajb : a ≤ aj ∧ aj < b := by omega
        have HAJ := Lib.hid haj
        have p6 : IntKind.i64.wrap ((a : Int) + ((o : Int) - l)) = aj := by rw [IntKind.wrap_i64]; omega
        have p7 : IntKind.i64.wrap (aj : Int) = aj := by rw [IntKind.wrap_i64]; omega
        have p8 : IntKind.i64.wrap (xi : Int) = xi := by rw [IntKind.wrap_i64]; omega
        go_wp2_with fail
        obtain ⟨i1, hi1⟩ : ∃ q : Nat, q = xi := ⟨_, rfl⟩
        have eai1 : ((xi : Int)).toNat = i1 := by omega
        have pai1 : (0 : Int) ≤ (xi : Int) := by omega
        have bai1 : (xi : Int) < (n : Int) := by omega
        have rai1 : IntKind.i64.wrap ((xi : Int)) = (xi : Int) := by rw [IntKind.wrap_i64]; omega
        obtain ⟨j1, hj1⟩ : ∃ q : Nat, q = aj := ⟨_, rfl⟩
        have eaj1 : ((aj : Int)).toNat = j1 := by omega
        have paj1 : (0 : Int) ≤ (aj : Int) := by omega
        have baj1 : (aj : Int) < (n : Int) := by omega
        have raj1 : IntKind.i64.wrap ((aj : Int)) = (aj : Int) := by rw [IntKind.wrap_i64]; omega
        obtain ⟨x1, hx1⟩ : ∃ x, Di (i1) = x := ⟨_, rfl⟩
        obtain ⟨y1, hy1⟩ : ∃ y, Di (j1) = y := ⟨_, rfl⟩
        obtain ⟨c11, f11⟩ := S2.out.row i1 (by omega)
        obtain ⟨c21, f21⟩ := S2.out.row j1 (by omega)
        obtain ⟨u1, c31⟩ := S2.out.second (i := i1) (j := j1) (by omega) (by omega) (.int .i64 (y1 : Nat))
        have w3S : Hid (Srt w0 blk off n K M (swp Di (xi) (aj)) ((w2.setCell ⟨blk, off + i1, none⟩ (.int .i64 (y1 : Nat))).setCell ⟨blk, off + j1, none⟩ (.int .i64 (x1 : Nat))).drew) := by
          show Srt _ _ _ _ _ _ _ _
          rw [← hx1, ← hy1, ← hi1, ← hj1]
          exact (S2.out.swap (by omega) (by omega)).drewN 1
        rw [hx1] at c11
        rw [hy1] at c21
        clear hx1 hy1 hi1 hj1
        go_wp2_with fail
        go_region
        clear c11 c21 c31 f11 f21
        have BXL : Hid (BoxU ((w2.setCell ⟨blk, off + i1, none⟩ (.int .i64 (y1 : Nat))).setCell ⟨blk, off + j1, none⟩ (.int .i64 (x1 : Nat))).drew w.heap.size .u64 r) := BX2.out.far HS.out.2
        generalize ((w2.setCell ⟨blk, off + i1, none⟩ (.int .i64 (y1 : Nat))).setCell ⟨blk, off + j1, none⟩ (.int .i64 (x1 : Nat))).drew = w3 at w3S BXL ⊢
        clear eai1 pai1 bai1 rai1 eaj1 paj1 baj1 raj1
        have BX3 : Hid (BoxU w3 w.heap.size .u64 r) := BXL.out
        clear p6 p7 p8 haj
        go_wp2_with fail
        go_roundg (3 - (t + 1))
        case measure => omega
        case rel =>
          refine ⟨t + 1, ?_, by omega, by omega, Lib.hid ⟨r, _, HRX.out, BX3.out, w3S.out, SH.out.trans (shuf_swp _ hxr hajb)⟩⟩
          have := HXI.out
          first | (congr 1; omega) | (simp only [Value.int.injEq, true_and]; omega)
      
    · have hd : decide ((a : Int) + q * 2 - 1 + t ≤ (a : Int) + q * 2 + 1) = false := decide_eq_false (by omega)
      obtain ⟨X, Di, hX, hbx, hs, hsh⟩ := IN.out
      have S1 := Lib.hid hs
      have SH := Lib.hid hsh
      obtain ⟨xi, hxi⟩ : ∃ xi : Nat, (a : Int) + q * 2 - 1 + t = xi := ⟨a + q * 2 - 1 + t, by omega⟩
      rw [hxi] at hd ⊢
      clear hbx hs hsh hxi
      go_wp2_with fail
      go_end0
      exact ⟨rfl, Di, S1.out, SH.out⟩
end Go.Proofs.Ytgfjfpfhalblgaa
