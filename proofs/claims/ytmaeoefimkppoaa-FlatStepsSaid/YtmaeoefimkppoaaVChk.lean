/- What Check and Size of package wide, and the chapter's Check, return of any object, and the laws' own 'long'. -/
import Derived.Test.YtmaeoefimkppoaaVVal
namespace Go.Proofs.Ytmaeoefimkppoaa.Wd
open Go.ChangeShapes Go.WideShapes Go.ChangeAt Go.RowKit
set_option maxRecDepth 1000000

def In64 (n : Int) : Prop := -9223372036854775808 ≤ n ∧ n ≤ 9223372036854775807
/-- The value v is the object o, in the world w. -/
def ObjAt (w : World) (v : Value) (o : Ob) : Prop := ∃ wv bv, v = .agg #[.int .i64 o.c, .int .i64 o.k, wv, bv] ∧ RowI w wv o.w ∧ RowB w bv o.b ∧ In64 o.c ∧ In64 o.k
theorem ObjAt.kept {w w' : World} {v : Value} {o : Ob} (h : ObjAt w v o) (hb : Below w.heap.size w w') : ObjAt w' v o := by
  obtain ⟨wv, bv, rfl, h1, h2, h3⟩ := h
  exact ⟨wv, bv, rfl, h1.kept hb, h2.kept hb, h3⟩
def Short (o : Ob) : Prop := o.w.length ≤ 1000000 ∧ o.b.length ≤ 1000000

def SizePost (n : Nat) (w : World) (e : Ending) (w' : World) : Prop := e = .returned (.int .i64 n) ∧ Below w.heap.size w w'
set_option maxHeartbeats 400000 in
theorem size_any (v : Value) (o : Ob) (w : World) (h : ObjAt w v o) :
    Calls Try.prog 50 #[v] w (SizePost (sizeO o) w) := by
  obtain ⟨wv, bv, rfl, ⟨_, _, a1, c1, rfl, _⟩, ⟨_, _, a2, c2, rfl, _⟩, _, _⟩ := h
  obtain ⟨c, k, l, b⟩ := o
  simp only
  by_cases h1 : k = 1
  · subst h1
    go_enter Try.func50, Try.ntmps50
    go_wp2
    go_ret
    exact ⟨rfl, (Below.refl _ _).alloc (Nat.le_refl _) _⟩
  by_cases h2 : k = 2
  · subst h2
    go_enter Try.func50, Try.ntmps50
    go_wp2
    go_ret
    exact ⟨rfl, (Below.refl _ _).alloc (Nat.le_refl _) _⟩
  · have e1 : (k == 1) = false := by simpa using h1
    have e2 : (k == 2) = false := by simpa using h2
    go_enter Try.func50, Try.ntmps50
    go_wp2
    go_ret
    refine ⟨?_, (Below.refl _ _).alloc (Nat.le_refl _) _⟩
    simp [sizeO, h1, h2]

def ChkPost (o : Ob) (w : World) (e : Ending) (w' : World) : Prop := e = .returned (.int .i64 (chk o)) ∧ Below w.heap.size w w'
theorem chk_no {o : Ob} (h : okO o = false) : (2 : Int) = chk o := by simp [chk, h]
theorem chk_yes {o : Ob} (h : okO o = true) : (0 : Int) = chk o := by simp [chk, h]

theorem box_cells {w w1 : World} {x y z u : Value} (hb : Below (w.alloc (.cells #[x, y, z, u] 33)).heap.size (w.alloc (.cells #[x, y, z, u] 33)) w1) :
    w1.cell? ⟨w.heap.size, 0, none⟩ = some x ∧ w1.cell? ⟨w.heap.size, 1, none⟩ = some y ∧ w1.cell? ⟨w.heap.size, 2, none⟩ = some z ∧ w1.cell? ⟨w.heap.size, 3, none⟩ = some u := by
  refine ⟨?_, ?_, ?_, ?_⟩
  all_goals
    rw [hb.cell (by simp), World.cell?_alloc_at _ _ _ _ rfl]
    rfl

set_option maxHeartbeats 1000000 in
theorem check_all (v : Value) (o : Ob) (w : World) (h : ObjAt w v o) :
    Calls Try.prog 54 #[v] w (ChkPost o w) := by
  have HO := Lib.hid h
  have HZ := Lib.hid (fun w' v' h => size_any v' o w' h)
  obtain ⟨wv, bv, rfl, hw, hb, hc, _⟩ := h
  have HW := Lib.hid hw.1
  obtain ⟨_, h6, a1, c1, rfl, _⟩ := hw
  obtain ⟨_, _, a2, c2, rfl, _⟩ := hb
  have HN := Lib.hid (fun w => named_any o.c w hc.1 hc.2)
  cases hn : namB o.c with
  | false =>
    have HE := Lib.hid (chk_no (o := o) (by simp [okO, hn]))
    rw [hn] at HN
    generalize namV o.c = y at HN
    clear hn h6 hc HO HZ HW
    go_enter Try.func54, Try.ntmps54
    go_wp2_with fail
    refine (HN.out _).mono ?_
    rintro e w1 ⟨rfl, rfl⟩
    go_wp2
    go_ret
    exact ⟨ret_i HE.out, (Below.refl _ _).alloc (Nat.le_refl _) _⟩
  | true =>
  have HB := Lib.hid hn
  rw [hn] at HN
  generalize namV o.c = y at HN
  clear hn hc
  by_cases hz : 1000 < sizeO o
  · have HE := Lib.hid (chk_no (o := o) (by
      cases he : okO o with
      | false => rfl
      | true => have := size_le he; omega))
    have hz' : (1000 : Int) < sizeO o := by omega
    generalize sizeO o = n at HZ hz hz'
    clear h6 HW
    go_enter Try.func54, Try.ntmps54
    go_wp2_with fail
    refine (HN.out _).mono ?_
    rintro e w1 ⟨rfl, rfl⟩
    go_wp2_with fail
    refine (HZ.out _ _ (HO.out.kept ((Below.refl _ _).alloc (Nat.le_refl _) _))).mono ?_
    rintro e w1 ⟨rfl, hb1⟩
    obtain ⟨b0, b1, b2, b3⟩ := box_cells hb1
    have HB1 := Lib.hid (((Below.refl _ _).alloc (Nat.le_refl _) _).trans (hb1.mono (by simp)) : Below w.heap.size w w1)
    clear hb1
    go_wp2
    go_ret
    exact ⟨ret_i HE.out, HB1.out⟩
  have hz' : ¬ (1000 : Int) < sizeO o := by omega
  have HN0 := Lib.hid hz
  generalize sizeO o = n at HZ hz hz'
  obtain ⟨c, k, l, b⟩ := o
  simp only at *
  by_cases h1 : k = 1
  · subst h1
    have h3 : l.length ≤ 1000 := by have := HN0.out; simp only [sizeO, if_true] at this; omega
    by_cases hb0 : b = []
    · subst hb0
      have HC := Lib.hid (fun w hv => contains_any (.slice a1 l.length c1) l w hv h6 (by omega))
      cases hq : l.all valB with
      | true =>
        have HE := Lib.hid (chk_yes (o := ⟨c, 1, l, []⟩) (by simp [okO, HB.out, h3, hq]))
        rw [hq] at HC
        clear hq h6
        go_enter Try.func54, Try.ntmps54
        go_wp2_with fail
        refine (HN.out _).mono ?_
        rintro e w1 ⟨rfl, rfl⟩
        go_wp2_with fail
        refine (HZ.out _ _ (HO.out.kept ((Below.refl _ _).alloc (Nat.le_refl _) _))).mono ?_
        rintro e w1 ⟨rfl, hb1⟩
        obtain ⟨b0, b1, b2, b3⟩ := box_cells hb1
        have HB1 := Lib.hid (((Below.refl _ _).alloc (Nat.le_refl _) _).trans (hb1.mono (by simp)) : Below w.heap.size w w1)
        clear hb1
        go_wp2_with fail
        refine (HC.out _ (HW.out.kept HB1.out)).mono ?_
        rintro e w2 ⟨rfl, rfl⟩
        go_wp2
        go_ret
        exact ⟨ret_i HE.out, HB1.out⟩
      | false =>
        have HE := Lib.hid (chk_no (o := ⟨c, 1, l, []⟩) (by simp [okO, HB.out, h3, hq]))
        rw [hq] at HC
        clear hq h6
        go_enter Try.func54, Try.ntmps54
        go_wp2_with fail
        refine (HN.out _).mono ?_
        rintro e w1 ⟨rfl, rfl⟩
        go_wp2_with fail
        refine (HZ.out _ _ (HO.out.kept ((Below.refl _ _).alloc (Nat.le_refl _) _))).mono ?_
        rintro e w1 ⟨rfl, hb1⟩
        obtain ⟨b0, b1, b2, b3⟩ := box_cells hb1
        have HB1 := Lib.hid (((Below.refl _ _).alloc (Nat.le_refl _) _).trans (hb1.mono (by simp)) : Below w.heap.size w w1)
        clear hb1
        go_wp2_with fail
        refine (HC.out _ (HW.out.kept HB1.out)).mono ?_
        rintro e w2 ⟨rfl, rfl⟩
        go_wp2
        go_ret
        exact ⟨ret_i HE.out, HB1.out⟩
    · have HE := Lib.hid (chk_no (o := ⟨c, 1, l, b⟩) (by simp [okO, hb0]))
      have hq : (b.length == 0) = false := by simpa using hb0
      have hq2 : ((b.length : Int) == 0) = false := by rw [beq_eq_false_iff_ne]; have : b.length ≠ 0 := by simpa using hb0
                                                       omega
      clear h6 hb0
      go_enter Try.func54, Try.ntmps54
      go_wp2_with fail
      refine (HN.out _).mono ?_
      rintro e w1 ⟨rfl, rfl⟩
      go_wp2_with fail
      refine (HZ.out _ _ (HO.out.kept ((Below.refl _ _).alloc (Nat.le_refl _) _))).mono ?_
      rintro e w1 ⟨rfl, hb1⟩
      obtain ⟨b0, b1, b2, b3⟩ := box_cells hb1
      have HB1 := Lib.hid (((Below.refl _ _).alloc (Nat.le_refl _) _).trans (hb1.mono (by simp)) : Below w.heap.size w w1)
      clear hb1
      go_wp2
      go_ret
      exact ⟨ret_i HE.out, HB1.out⟩
  by_cases h2 : k = 2
  · subst h2
    have h3 : b.length ≤ 1000 := by have := HN0.out; simp [sizeO] at this; omega
    by_cases hb0 : l = []
    · subst hb0
      have HE := Lib.hid (chk_yes (o := ⟨c, 2, [], b⟩) (by simp [okO, HB.out, h3]))
      clear h6
      go_enter Try.func54, Try.ntmps54
      go_wp2_with fail
      refine (HN.out _).mono ?_
      rintro e w1 ⟨rfl, rfl⟩
      go_wp2_with fail
      refine (HZ.out _ _ (HO.out.kept ((Below.refl _ _).alloc (Nat.le_refl _) _))).mono ?_
      rintro e w1 ⟨rfl, hb1⟩
      obtain ⟨b0, b1, b2, b3⟩ := box_cells hb1
      have HB1 := Lib.hid (((Below.refl _ _).alloc (Nat.le_refl _) _).trans (hb1.mono (by simp)) : Below w.heap.size w w1)
      clear hb1
      go_wp2
      go_ret
      exact ⟨ret_i HE.out, HB1.out⟩
    · have HE := Lib.hid (chk_no (o := ⟨c, 2, l, b⟩) (by simp [okO, hb0]))
      have hq : (l.length == 0) = false := by simpa using hb0
      have hq2 : ((l.length : Int) == 0) = false := by rw [beq_eq_false_iff_ne]; have : l.length ≠ 0 := by simpa using hb0
                                                       omega
      clear h6 hb0
      go_enter Try.func54, Try.ntmps54
      go_wp2_with fail
      refine (HN.out _).mono ?_
      rintro e w1 ⟨rfl, rfl⟩
      go_wp2_with fail
      refine (HZ.out _ _ (HO.out.kept ((Below.refl _ _).alloc (Nat.le_refl _) _))).mono ?_
      rintro e w1 ⟨rfl, hb1⟩
      obtain ⟨b0, b1, b2, b3⟩ := box_cells hb1
      have HB1 := Lib.hid (((Below.refl _ _).alloc (Nat.le_refl _) _).trans (hb1.mono (by simp)) : Below w.heap.size w w1)
      clear hb1
      go_wp2
      go_ret
      exact ⟨ret_i HE.out, HB1.out⟩
  · have HE := Lib.hid (chk_no (o := ⟨c, k, l, b⟩) (by simp [okO, h1, h2]))
    have e1 : (k == 1) = false := by simpa using h1
    have e2 : (k == 2) = false := by simpa using h2
    clear h6
    go_enter Try.func54, Try.ntmps54
    go_wp2_with fail
    refine (HN.out _).mono ?_
    rintro e w1 ⟨rfl, rfl⟩
    go_wp2_with fail
    refine (HZ.out _ _ (HO.out.kept ((Below.refl _ _).alloc (Nat.le_refl _) _))).mono ?_
    rintro e w1 ⟨rfl, hb1⟩
    obtain ⟨b0, b1, b2, b3⟩ := box_cells hb1
    have HB1 := Lib.hid (((Below.refl _ _).alloc (Nat.le_refl _) _).trans (hb1.mono (by simp)) : Below w.heap.size w w1)
    clear hb1
    go_wp2
    go_ret
    exact ⟨ret_i HE.out, HB1.out⟩
theorem check_any (v : Value) (o : Ob) (w : World) (h : ObjAt w v o) (_ : Short o) : Calls Try.prog 54 #[v] w (ChkPost o w) := check_all v o w h
end Go.Proofs.Ytmaeoefimkppoaa.Wd
