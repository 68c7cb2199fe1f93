/- What the chapter's Check returns of any object, and the laws' own 'long'. -/
import Derived.Test.YtmaeoefimkppoaaVChk
namespace Go.Proofs.Ytmaeoefimkppoaa.Wd
open Go.ChangeShapes Go.WideShapes Go.ChangeAt Go.RowKit
set_option maxRecDepth 1000000

def Far (o : Ob) : Prop := o.w.length ≤ 9223372036854775807 ∧ o.b.length ≤ 9223372036854775807
def longO (o : Ob) : Bool := decide (1200 < o.w.length ∨ 1200 < o.b.length)
set_option maxHeartbeats 1000000 in
theorem refcheck_any (v : Value) (o : Ob) (w : World) (h : ObjAt w v o) (hs : Far o) :
    Calls Try.prog 26 #[v] w (ChkPost o w) := by
  obtain ⟨wv, bv, rfl, hw, hb, hc, _⟩ := h
  obtain ⟨⟨a1, c1, rfl, hr⟩, h6, _, _, _, _⟩ := hw
  obtain ⟨_, _, a2, c2, rfl, _⟩ := hb
  have HR := Lib.hid hr
  have H6 := Lib.hid h6
  have HN := Lib.hid (fun w => named_ref o.c w hc.1 hc.2)
  obtain ⟨hs1, hs2⟩ := hs
  obtain ⟨c, k, l, b⟩ := o
  simp only at *
  clear hr h6 hc
  cases hn : namB c with
  | false =>
    have HE := Lib.hid (chk_no (o := ⟨c, k, l, b⟩) (by simp [okO, hn]))
    rw [hn] at HN
    generalize namV c = y at HN
    clear hn
    go_enter Try.func26, Try.ntmps26
    go_wp2_with fail
    refine (HN.out _).mono ?_
    rintro e w1 ⟨rfl, rfl⟩
    go_wp2
    go_ret
    exact ⟨ret_i HE.out, (Below.refl _ _).alloc (Nat.le_refl _) _⟩
  | true =>
  have HB := Lib.hid hn
  rw [hn] at HN
  generalize namV c = y at HN
  clear hn
  by_cases hk : k ≠ 1 ∧ k ≠ 2
  · have HE := Lib.hid (chk_no (o := ⟨c, k, l, b⟩) (by simp [okO, hk.1, hk.2]))
    have e1 : (k != 1) = true := by simpa using hk.1
    have e2 : (k != 2) = true := by simpa using hk.2
    clear hk
    go_enter Try.func26, Try.ntmps26
    go_wp2_with fail
    refine (HN.out _).mono ?_
    rintro e w1 ⟨rfl, rfl⟩
    go_wp2
    go_ret
    exact ⟨ret_i HE.out, (Below.refl _ _).alloc (Nat.le_refl _) _⟩
  have hk : k = 1 ∨ k = 2 := by omega
  by_cases hl : 1000 < l.length
  · have HE := Lib.hid (chk_no (o := ⟨c, k, l, b⟩) (by
      have : l ≠ [] := fun e => by subst e; simp at hl
      simp [okO, this]; omega))
    have hl' : (1000 : Int) < l.length := by omega
    rcases hk with rfl | rfl
    · skip
      go_enter Try.func26, Try.ntmps26
      go_wp2_with fail
      refine (HN.out _).mono ?_
      rintro e w1 ⟨rfl, rfl⟩
      go_wp2
      go_ret
      exact ⟨ret_i HE.out, (Below.refl _ _).alloc (Nat.le_refl _) _⟩
    · skip
      go_enter Try.func26, Try.ntmps26
      go_wp2_with fail
      refine (HN.out _).mono ?_
      rintro e w1 ⟨rfl, rfl⟩
      go_wp2
      go_ret
      exact ⟨ret_i HE.out, (Below.refl _ _).alloc (Nat.le_refl _) _⟩
  have hl' : ¬ (1000 : Int) < l.length := by omega
  by_cases hb : 1000 < b.length
  · have HE := Lib.hid (chk_no (o := ⟨c, k, l, b⟩) (by
      have : b ≠ [] := fun e => by subst e; simp at hb
      simp [okO, this]; omega))
    have hb' : (1000 : Int) < b.length := by omega
    rcases hk with rfl | rfl
    · skip
      go_enter Try.func26, Try.ntmps26
      go_wp2_with fail
      refine (HN.out _).mono ?_
      rintro e w1 ⟨rfl, rfl⟩
      go_wp2
      go_ret
      exact ⟨ret_i HE.out, (Below.refl _ _).alloc (Nat.le_refl _) _⟩
    · skip
      go_enter Try.func26, Try.ntmps26
      go_wp2_with fail
      refine (HN.out _).mono ?_
      rintro e w1 ⟨rfl, rfl⟩
      go_wp2
      go_ret
      exact ⟨ret_i HE.out, (Below.refl _ _).alloc (Nat.le_refl _) _⟩
  have hb' : ¬ (1000 : Int) < b.length := by omega
  by_cases hbad : (k = 1 ∧ b ≠ []) ∨ (k = 2 ∧ l ≠ [])
  · rcases hbad with ⟨rfl, h0⟩ | ⟨rfl, h0⟩
    · have HE := Lib.hid (chk_no (o := ⟨c, 1, l, b⟩) (by simp [okO, h0]))
      have h3 : 0 < b.length := List.length_pos_iff.2 h0
      have h3' : (0 : Int) < b.length := by omega
      clear h0
      go_enter Try.func26, Try.ntmps26
      go_wp2_with fail
      refine (HN.out _).mono ?_
      rintro e w1 ⟨rfl, rfl⟩
      go_wp2
      go_ret
      exact ⟨ret_i HE.out, (Below.refl _ _).alloc (Nat.le_refl _) _⟩
    · have HE := Lib.hid (chk_no (o := ⟨c, 2, l, b⟩) (by simp [okO, h0]))
      have h3 : 0 < l.length := List.length_pos_iff.2 h0
      have h3' : (0 : Int) < l.length := by omega
      clear h0
      go_enter Try.func26, Try.ntmps26
      go_wp2_with fail
      refine (HN.out _).mono ?_
      rintro e w1 ⟨rfl, rfl⟩
      go_wp2
      go_ret
      exact ⟨ret_i HE.out, (Below.refl _ _).alloc (Nat.le_refl _) _⟩
  rcases hk with rfl | rfl
  · obtain rfl : b = [] := by
      cases b with
      | nil => rfl
      | cons x r => exact absurd (.inl ⟨rfl, by simp⟩) hbad
    have HY := Lib.hid (fun hq : l.all valB = true => chk_yes (o := ⟨c, 1, l, []⟩) ((okO_iff _).2 ⟨HB.out, .inl ⟨rfl, rfl, by show l.length ≤ 1000; omega, List.all_eq_true.1 hq⟩⟩))
    have HX := Lib.hid (fun hq : l.all valB = false => chk_no (o := ⟨c, 1, l, []⟩) (by simp only [okO, hq]; simp))
    clear hbad hb hb'
    go_enter Try.func26, Try.ntmps26
    go_wp2_with fail
    refine (HN.out _).mono ?_
    rintro e w1 ⟨rfl, rfl⟩
    go_wp2
    go_loop [5] (fun i => ∃ j : Nat, j ≤ l.length ∧ i = .int .i64 j ∧ (l.take j).all valB = true) (fun i => l.length - (intOf i).toNat)
    case atStart => exact ⟨0, by omega, rfl, rfl⟩
    case round =>
      obtain ⟨j, hj, rfl, ht⟩ := hrel
      have HT := Lib.hid ht
      clear ht
      by_cases hlt : j < l.length
      · have hn1 : l ≠ [] := fun e => by subst e; simp at hlt
        obtain ⟨b1, o1, rfl, q1⟩ := HR.out.resolve_left hn1
        have r0 := q1 j hlt
        have hlw := World.block_lt_of_cell? _ _ r0
        have r1 := (World.cell?_alloc_lt w (.cells #[.int .i64 c, .int .i64 1, .slice (some ⟨b1, o1, none⟩) l.length c1, .slice a2 0 c2] 33) _ hlw).trans r0
        clear q1 hn1 r0
        have HI := Lib.hid (H6.out.at_ j)
        cases hg : valB (l.getD j 0) with
        | true =>
          have HG := Lib.hid hg
          have HC := Lib.hid (fun w => ref_any (l.getD j 0) w HI.out.1 HI.out.2)
          rw [hg] at HC
          clear hg
          generalize l.getD j 0 = z at r1 HC
          go_wp2_with fail
          refine (HC.out _).mono ?_
          rintro e w1 ⟨rfl, rfl⟩
          go_wp2
          refine ⟨⟨j + 1, by omega, by go_num, take_all hlt HT.out HG.out⟩, by simp [intOf]; omega⟩
        | false =>
          have HG := Lib.hid hg
          have HC := Lib.hid (fun w => ref_any (l.getD j 0) w HI.out.1 HI.out.2)
          rw [hg] at HC
          clear hg
          generalize l.getD j 0 = z at r1 HC
          go_wp2_with fail
          refine (HC.out _).mono ?_
          rintro e w1 ⟨rfl, rfl⟩
          go_wp2
          go_ret
          exact ⟨ret_i (HX.out (not_all hlt HG.out)), (Below.refl _ _).alloc (Nat.le_refl _) _⟩
      · obtain rfl : j = l.length := by omega
        go_wp2
        go_ret
        have hq := HT.out
        rw [List.take_length] at hq
        exact ⟨ret_i (HY.out hq), (Below.refl _ _).alloc (Nat.le_refl _) _⟩
  · obtain rfl : l = [] := by
      cases l with
      | nil => rfl
      | cons x r => exact absurd (.inr ⟨rfl, by simp⟩) hbad
    have HE := Lib.hid (chk_yes (o := ⟨c, 2, [], b⟩) (by simp [okO, HB.out]; omega))
    clear hbad hl hl'
    go_enter Try.func26, Try.ntmps26
    go_wp2_with fail
    refine (HN.out _).mono ?_
    rintro e w1 ⟨rfl, rfl⟩
    go_wp2
    go_loop [5] (fun i => i = .int .i64 0) (fun _ => 0)
    case atStart => rfl
    case round =>
      subst hrel
      go_wp2
      go_ret
      exact ⟨ret_i HE.out, (Below.refl _ _).alloc (Nat.le_refl _) _⟩
end Go.Proofs.Ytmaeoefimkppoaa.Wd
