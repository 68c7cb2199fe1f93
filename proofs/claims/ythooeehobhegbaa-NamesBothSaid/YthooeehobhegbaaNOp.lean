/- A table of package names that is right; what its functions Slot, ID, lowest, release do. No condition but those that each statement names. -/
import Derived.Test.YthooeehobhegbaaNSe
namespace Go.Proofs.Ythooeehobhegbaa
set_option maxRecDepth 1000000
open Go.ChangeShapes Go.WideShapes Go.ChangeAt Go.RowKit

/-- What a table keeps. -/
structure GoodT (n : Nat) (I : Nat → Int) (E : Nat → Nat) (bd low : Nat) : Prop where
  ids : IdsOk n I
  hash : Hash n (homeN (2 * n)) I E
  bd : bd = cntI I n
  low : 1 ≤ low ∧ low ≤ n + 1 ∧ ∀ j, j + 1 < low → I j ≠ 0
/-- A table that is right: n slots, whose ids are I. -/
structure TabAt (w : World) (c : Tb) (n : Nat) (I : Nat → Int) : Prop where
  ex : ∃ E bd low, TabM w c n I E bd low ∧ GoodT n I E bd low
/-- What a call that may change the table leaves. -/
def TabPost (u : Value) (c : Tb) (n : Nat) (I' : Nat → Int) (w : World) (e : Ending) (w' : World) : Prop := e = .returned u ∧ TabAt w' c n I' ∧ Only (TF c) w w'
/-- The object of the slot k; 0: none. -/
def idOf (n : Nat) (I : Nat → Int) (k : Int) : Int := if 1 ≤ k ∧ k ≤ n then I (k.toNat - 1) else 0
/-- s is the smallest free slot. -/
def LeastIs (n : Nat) (I : Nat → Int) (s : Nat) : Prop := 1 ≤ s ∧ s ≤ n ∧ I (s - 1) = 0 ∧ ∀ j, j + 1 < s → I j ≠ 0
theorem LeastIs.eq {n : Nat} {I : Nat → Int} {s t : Nat} (h : LeastIs n I s) (k : LeastIs n I t) : s = t := by
  obtain ⟨h1, h2, h3, h4⟩ := h
  obtain ⟨k1, k2, k3, k4⟩ := k
  rcases Nat.lt_trichotomy s t with hl | hl | hl
  · exact absurd h3 (k4 (s - 1) (by omega))
  · exact hl
  · exact absurd k3 (h4 (t - 1) (by omega))
theorem least_ex {n : Nat} {I : Nat → Int} (h : ∃ i, i < n ∧ I i = 0) : ∃ s, LeastIs n I s := by
  obtain ⟨i, hi, h0⟩ := h
  have key : ∀ m i, i ≤ m → i < n → I i = 0 → ∃ s, LeastIs n I s := by
    intro m
    induction m with
    | zero => intro i h1 h2 h3; exact ⟨i + 1, by omega, by omega, h3, fun j hj => by omega⟩
    | succ m ih =>
      intro i h1 h2 h3
      by_cases hf : ∃ j, j < i ∧ I j = 0
      · obtain ⟨j, hj, hj0⟩ := hf
        exact ih j (by omega) (by omega) hj0
      · exact ⟨i + 1, by omega, by omega, h3, fun j hj h0 => hf ⟨j, by omega, h0⟩⟩
  exact key i i (Nat.le_refl _) hi h0
section
variable {w w' : World} {c : Tb} {n bd low : Nat} {I : Nat → Int} {E : Nat → Nat} {F : Nat → Prop}
theorem TabAt.only (h : TabAt w c n I) (b : Only F w w') (hF : ∀ k, TF c k → ¬ F k) : TabAt w' c n I := by
  obtain ⟨E, bd, low, h1, h2⟩ := h.ex
  exact ⟨E, bd, low, h1.only b hF, h2⟩
theorem TabAt.fresh (h : TabAt w c n I) (b : Below w.heap.size w w') : TabAt w' c n I := h.only (F := fun _ => False) (Only.of_below b) (fun _ _ h => h)
theorem TabAt.drewN (h : TabAt w c n I) (q : Nat) : TabAt (w.drewN q) c n I := h.fresh (below_drewN (Below.refl _ _) q)
theorem TabAt.ok (h : TabAt w c n I) : IdsOk n I := by
  obtain ⟨_, _, _, _, h2⟩ := h.ex
  exact h2.ids
theorem TabAt.small (h : TabAt w c n I) : n ≤ 16383 := by
  obtain ⟨_, _, _, h1, _⟩ := h.ex
  exact h1.small
theorem TabAt.lt (h : TabAt w c n I) : ∀ k, TF c k → k < w.heap.size := by
  obtain ⟨_, _, _, h1, _⟩ := h.ex
  obtain ⟨l1, l2, l3⟩ := h1.lt
  rintro k (rfl | rfl | rfl) <;> assumption
theorem len_at (h : TabAt w c n I) : Calls Try.prog 14 #[.pointer (some ⟨c.t, 0, none⟩)] w (Told (.int .i64 (cntI I n)) w) := by
  obtain ⟨_, _, _, h1, h2⟩ := h.ex
  rw [← h2.bd]; exact len_any h1
theorem size_at (h : TabAt w c n I) : Calls Try.prog 19 #[.pointer (some ⟨c.t, 0, none⟩)] w (Told (.int .i64 n) w) := by
  obtain ⟨_, _, _, h1, _⟩ := h.ex
  exact size_any h1

/-! Slot, ID. -/
set_option maxHeartbeats 1000000 in
theorem slot_at (id : Int) (s : Nat) (h : TabAt w c n I) (hs : SlotIs n I id s) : Calls Try.prog 16 #[.pointer (some ⟨c.t, 0, none⟩), .int .i64 id] w (Told (.tuple #[.int .i64 s, .bool (decide (s ≠ 0))]) w) := by
  obtain ⟨E, bd, low, hm, hg⟩ := h.ex
  have HLen := Lib.hid (len_any hm)
  have hsm := hm.small
  have hbd := cntI_le I n
  rw [← hg.bd] at hbd
  by_cases h0 : bd = 0
  · obtain rfl : s = 0 := hs.eq hg.ids (.inr ⟨rfl, fun i hi he => by rw [← he]; exact cntI_none (n := n) (by rw [← hg.bd]; exact h0) i hi⟩)
    subst h0
    clear hs hg hm h hbd
    go_enter Try.func16, Try.ntmps16
    go_wp2_with fail
    refine HLen.out.mono ?_
    rintro e w1 ⟨rfl, rfl⟩
    go_wp2_with fail
    go_ret2
    exact ⟨rfl, rfl⟩
  · have HF := Lib.hid (find_any id (by omega) hm hg.hash)
    have hd : (((bd : Nat) : Int) == 0) = false := by simp; omega
    have HM := Lib.hid hm
    obtain ⟨b, hb⟩ : ∃ b, decide (s ≠ 0) = b := ⟨_, rfl⟩
    have HS : Hid (∀ a ok, FindIs n (homeN (2 * n)) I E id a ok → E a = s ∧ ok = b) := Lib.hid (fun a ok hf => by
      have h1 := hf.slot hg.hash
      have h2 := h1.1.eq hg.ids hs
      exact ⟨h2, by rw [h1.2, h2, hb]⟩)
    rw [hb]
    clear hb
    clear hs hg hm h h0 hbd
    go_enter Try.func16, Try.ntmps16
    go_wp2_with fail
    refine HLen.out.mono ?_
    rintro e w1 ⟨rfl, rfl⟩
    go_wp2_with fail
    refine HF.out.mono ?_
    rintro e w1 ⟨a, ok, rfl, hf, rfl⟩
    obtain ⟨e1, rfl⟩ := HS.out a ok hf
    have ha := hf.1
    have h1 := HM.out.c1
    have ce : w.cell? ⟨c.e, a, none⟩ = some (.int .i64 ((E a : Nat) : Int)) := (HM.out.re a ha).1
    rw [e1] at ce
    clear hf e1
    go_wp2_with fail
    go_ret2
    exact ⟨rfl, rfl⟩
theorem slot_nil (id : Int) (w : World) : Calls Try.prog 16 #[.pointer none, .int .i64 id] w (Told (.tuple #[.int .i64 0, .bool false]) w) := by
  have HLen := Lib.hid (len_nil w)
  go_enter Try.func16, Try.ntmps16
  go_wp2_with fail
  refine HLen.out.mono ?_
  rintro e w1 ⟨rfl, rfl⟩
  go_wp2_with fail
  go_ret2
  exact ⟨rfl, rfl⟩
theorem id_at (k : Int) (h : TabAt w c n I) : Calls Try.prog 17 #[.pointer (some ⟨c.t, 0, none⟩), .int .i64 k] w (Told (.tuple #[.int .i64 (idOf n I k), .bool (idOf n I k != 0)]) w) := by
  obtain ⟨E, bd, low, hm, hg⟩ := h.ex
  have HSz := Lib.hid (size_any hm)
  have hsm := hm.small
  by_cases h1 : k < 1
  · have e1 : idOf n I k = 0 := if_neg (by omega)
    rw [e1]
    have hd : decide (k < 1) = true := decide_eq_true h1
    clear hg hm h
    go_enter Try.func17, Try.ntmps17
    go_wp2_with fail
    go_ret2
    exact ⟨rfl, rfl⟩
  · have hd : decide (k < 1) = false := decide_eq_false h1
    by_cases h2 : (n : Int) < k
    · have e1 : idOf n I k = 0 := if_neg (by omega)
      rw [e1]
      have hd2 : decide ((n : Int) < k) = true := decide_eq_true h2
      clear hg hm h
      go_enter Try.func17, Try.ntmps17
      go_wp2_with fail
      refine HSz.out.mono ?_
      rintro e w1 ⟨rfl, rfl⟩
      go_wp2_with fail
      go_ret2
      exact ⟨rfl, rfl⟩
    · have e1 : idOf n I k = I (k.toNat - 1) := if_pos (by omega)
      rw [e1]
      have hd2 : decide ((n : Int) < k) = false := decide_eq_false h2
      obtain ⟨i, hi⟩ : ∃ i : Nat, k = (i : Int) + 1 := ⟨k.toNat - 1, by omega⟩
      have hin : i < n := by omega
      subst hi
      rw [show ((i : Int) + 1).toNat - 1 = i by omega]
      have c0 := hm.c0
      have ci := (hm.ra i hin).1
      generalize I i = u at ci ⊢
      clear hg hm h e1
      go_enter Try.func17, Try.ntmps17
      go_wp2_with fail
      refine HSz.out.mono ?_
      rintro e w1 ⟨rfl, rfl⟩
      go_wp2_with fail
      go_ret2
      exact ⟨rfl, rfl⟩
end
end Go.Proofs.Ythooeehobhegbaa
