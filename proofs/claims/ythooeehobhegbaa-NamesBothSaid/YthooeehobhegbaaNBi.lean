/- What the functions lowest, Bind of package names do. No condition but those that each statement names. -/
import Derived.Test.YthooeehobhegbaaNRl
namespace Go.Proofs.Ythooeehobhegbaa
set_option maxRecDepth 1000000
open Go.ChangeShapes Go.WideShapes Go.ChangeAt Go.RowKit

/-- What Bind tells, and the ids then. -/
def BindIs (n : Nat) (I : Nat → Int) (id : Int) (s : Nat) (t : Int) (I' : Nat → Int) : Prop :=
  (id < 1 ∧ s = 0 ∧ t = 2 ∧ I' = I) ∨ (1 ≤ id ∧ 1 ≤ s ∧ SlotIs n I id s ∧ t = 0 ∧ I' = I) ∨
  (1 ≤ id ∧ SlotIs n I id 0 ∧ (∀ i, i < n → I i ≠ 0) ∧ s = 0 ∧ t = 3 ∧ I' = I) ∨ (1 ≤ id ∧ SlotIs n I id 0 ∧ LeastIs n I s ∧ t = 0 ∧ I' = upd I (s - 1) id)
theorem bind_ex (n : Nat) (I : Nat → Int) (id : Int) : ∃ s t I', BindIs n I id s t I' := by
  by_cases h1 : id < 1
  · exact ⟨0, 2, I, .inl ⟨h1, rfl, rfl, rfl⟩⟩
  · obtain ⟨s, hs⟩ := slot_ex n I id
    by_cases h2 : s = 0
    · subst h2
      by_cases h3 : ∃ i, i < n ∧ I i = 0
      · obtain ⟨s, hl⟩ := least_ex h3
        exact ⟨s, 0, _, .inr (.inr (.inr ⟨by omega, hs, hl, rfl, rfl⟩))⟩
      · exact ⟨0, 3, I, .inr (.inr (.inl ⟨by omega, hs, fun i hi h0 => h3 ⟨i, hi, h0⟩, rfl, rfl, rfl⟩))⟩
    · exact ⟨s, 0, I, .inr (.inl ⟨by omega, by omega, hs, rfl, rfl⟩)⟩
section
variable {w w' : World} {c : Tb} {n bd low : Nat} {I : Nat → Int} {E : Nat → Nat} {F : Nat → Prop}
set_option maxHeartbeats 1000000 in
theorem lowest_any (s : Nat) (h : TabM w c n I E bd low) (hg : GoodT n I E bd low) (hs : LeastIs n I s) : Calls Try.prog 22 #[.pointer (some ⟨c.t, 0, none⟩)] w (Told (.int .i64 s) w) := by
  have c0 := h.c0
  have c3 := h.c3
  have hsm := h.small
  have HRA := Lib.hid h.ra
  have HS := Lib.hid hs
  have hl1 := hg.low.1
  have hsn := hs.2.1
  have hls : low ≤ s := by
    rcases Nat.lt_or_ge s low with hl | hl
    · exact absurd hs.2.2.1 (hg.low.2.2 (s - 1) (by have := hs.1; omega))
    · exact hl
  clear h hg hs
  go_enter Try.func22, Try.ntmps22
  go_wp2_with fail
  go_loop [3] (fun s3 => ∃ k : Nat, s3 = .int .i64 ((k : Int) + 1) ∧ low ≤ k + 1 ∧ k + 1 ≤ s) (fun s3 => s - (intOf s3).toNat)
  case atStart => exact ⟨low - 1, by congr 1; omega, by omega, by omega⟩
  case round =>
    obtain ⟨k, rfl, hk1, hk2⟩ := hrel
    have ci := (HRA.out k (by omega)).1
    have hkn : (k : Int) < n := by omega
    by_cases hks : k + 1 = s
    · have h0 : I k = 0 := by have := HS.out.2.2.1; rw [← hks] at this; exact this
      rw [h0] at ci
      have HK := Lib.hid hks
      clear hks h0
      go_wp2_with fail
      go_ret
      exact ⟨by rw [← HK.out]; show Ending.returned (.int .i64 ((k : Int) + 1)) = _; congr 2, rfl⟩
    · have h0 : I k ≠ 0 := HS.out.2.2.2 k (by omega)
      have hd : (I k != 0) = true := by simp [h0]
      generalize I k = u at ci hd
      clear h0
      go_wp2_with fail
      go_round
      case rel => exact ⟨k + 1, by go_num, by omega, by omega⟩
      case measure => simp [intOf]; omega
theorem TabM.bound {a : Nat} {id : Int} {s : Nat} (hm : TabM w c n I E bd low) (hg : GoodT n I E bd low) (hf : FindIs n (homeN (2 * n)) I E id a false) (hl : LeastIs n I s) (h0 : SlotIs n I id 0) (h1 : 1 ≤ id) (h2 : id ≤ 9223372036854775807) :
    TabAt ((((w.setCell ⟨c.e, a, none⟩ (.int .i64 s)).setCell ⟨c.a, s - 1, none⟩ (.int .i64 id)).setCell ⟨c.t, 2, none⟩ (.int .i64 ((bd + 1 : Nat) : Int))).setCell ⟨c.t, 3, none⟩ (.int .i64 ((s + 1 : Nat) : Int))) c n (upd I (s - 1) id) := by
  obtain ⟨l1, l2, l3, l4⟩ := hl
  have hno : ∀ j, j < n → I j ≠ id := fun j hj he => by
    rcases h0 with ⟨h, _⟩ | ⟨_, h⟩
    · omega
    · have := h j hj he; omega
  refine ⟨_, bd + 1, s + 1, (((hm.ent hf.1 s).idset (p := s - 1) (by omega) id).bdset (bd + 1)).lowset (s + 1), hg.ids.put (s - 1) h1 h2 hno, hg.hash.put hf l1 l2 l3 (by omega), ?_, by omega, by omega, fun j hj => ?_⟩
  · have := cntI_upd (I := I) (i := s - 1) (y := id) (n := n) (by omega)
    rw [if_pos l3, if_neg (by omega), ← hg.bd] at this
    omega
  · by_cases hjs : j = s - 1
    · rw [hjs, upd_at]; omega
    · rw [upd_ne _ _ hjs]; exact l4 j (by omega)
set_option maxHeartbeats 4000000 in
theorem bind_new (id : Int) (s : Nat) (h : TabAt w c n I) (h1 : 1 ≤ id) (h2 : id ≤ 9223372036854775807) (h0 : SlotIs n I id 0) (hl : LeastIs n I s) : Calls Try.prog 10 #[.pointer (some ⟨c.t, 0, none⟩), .int .i64 id] w (TabPost (.tuple #[.int .i64 s, .int .i64 0]) c n (upd I (s - 1) id) w) := by
  have HSl : Hid (Calls Try.prog 16 #[.pointer (some ⟨c.t, 0, none⟩), .int .i64 id] w (Told (.tuple #[.int .i64 0, .bool false]) w)) := slot_at id 0 h h0
  have HLen := Lib.hid (len_at h)
  have HSz := Lib.hid (size_at h)
  obtain ⟨E, bd, low, hm, hg⟩ := h.ex
  have hsm := hm.small
  have hbn : bd < n := by
    rcases Nat.lt_or_ge bd n with hb | hb
    · exact hb
    · have h3 := cntI_le I n
      rw [← hg.bd] at h3
      exact absurd hl.2.2.1 (cntI_all (n := n) (by rw [← hg.bd]; omega) (s - 1) (by have := hl.1; have := hl.2.1; omega))
  rw [← hg.bd] at HLen
  have HLow := Lib.hid (lowest_any s hm hg hl)
  have HF := Lib.hid (find_any id (by omega) hm hg.hash)
  have HM := Lib.hid hm
  have HB : Hid (∀ a ok, FindIs n (homeN (2 * n)) I E id a ok → ok = false ∧ TabAt ((((w.setCell ⟨c.e, a, none⟩ (.int .i64 s)).setCell ⟨c.a, s - 1, none⟩ (.int .i64 id)).setCell ⟨c.t, 2, none⟩ (.int .i64 ((bd + 1 : Nat) : Int))).setCell ⟨c.t, 3, none⟩ (.int .i64 ((s + 1 : Nat) : Int))) c n (upd I (s - 1) id)) := Lib.hid (fun a ok hf => by
    have h3 := hf.slot hg.hash
    have h4 := h3.1.eq hg.ids h0
    have hok : ok = false := by rw [h3.2, h4]; rfl
    subst hok
    exact ⟨rfl, hm.bound hg hf hl h0 h1 h2⟩)
  obtain ⟨i, rfl⟩ : ∃ i, s = i + 1 := ⟨s - 1, by have := hl.1; omega⟩
  have hin : i < n := by have := hl.2.1; omega
  rw [show i + 1 - 1 = i by omega] at HB ⊢
  have hd : decide (id < 1) = false := decide_eq_false (by omega)
  have hd2 : ((bd : Int) == (n : Int)) = false := by simp; omega
  clear h h0 hl hm hg
  go_enter Try.func10, Try.ntmps10
  go_wp2_with fail
  refine HSl.out.mono ?_
  rintro e w1 ⟨rfl, rfl⟩
  go_wp2_with fail
  refine HLen.out.mono ?_
  rintro e w1 ⟨rfl, rfl⟩
  go_wp2_with fail
  refine HSz.out.mono ?_
  rintro e w1 ⟨rfl, rfl⟩
  go_wp2_with fail
  refine HLow.out.mono ?_
  rintro e w1 ⟨rfl, rfl⟩
  go_wp2_with fail
  refine HF.out.mono ?_
  rintro e w1 ⟨a, ok, rfl, hf, rfl⟩
  have ha := hf.1
  obtain ⟨rfl, ht⟩ := HB.out a ok hf
  have HT := Lib.hid ht
  clear hf ht HB HF HSl HLen HSz HLow
  have c1 := HM.out.c1
  have ce := (HM.out.re a ha).1
  have fe := (HM.out.re a ha).2
  have m1 : TabM (w.setCell ⟨c.e, a, none⟩ (.int .i64 ((i : Int) + 1))) c n I (upd E a (i + 1)) bd low := HM.out.ent ha (i + 1)
  have c0 := m1.c0
  have ci := (m1.ra i hin).1
  have fi := (m1.ra i hin).2
  have m2 := m1.idset hin id
  have c2 := m2.c2
  have f2 := m2.fz 2
  have m3 : TabM (((w.setCell ⟨c.e, a, none⟩ (.int .i64 ((i : Int) + 1))).setCell ⟨c.a, i, none⟩ (.int .i64 id)).setCell ⟨c.t, 2, none⟩ (.int .i64 ((bd : Int) + 1))) c n (upd I i id) (upd E a (i + 1)) (bd + 1) low := m2.bdset (bd + 1)
  have c3 := m3.c3
  have f3 := m3.fz 3
  have o4 : Hid (Only (TF c) w ((((w.setCell ⟨c.e, a, none⟩ (.int .i64 ((i + 1 : Nat) : Int))).setCell ⟨c.a, i, none⟩ (.int .i64 id)).setCell ⟨c.t, 2, none⟩ (.int .i64 ((bd + 1 : Nat) : Int))).setCell ⟨c.t, 3, none⟩ (.int .i64 ((i + 1 + 1 : Nat) : Int)))) :=
    ((((Only.refl (TF c) w).setCell ⟨c.e, a, none⟩ (.inl (.inr (.inl rfl))) _).setCell ⟨c.a, i, none⟩ (.inl (.inl rfl)) _).setCell ⟨c.t, 2, none⟩ (.inl (.inr (.inr rfl))) _).setCell ⟨c.t, 3, none⟩ (.inl (.inr (.inr rfl))) _
  generalize E a = y at ce
  generalize I i = v at ci
  clear m1 m2 m3 HM
  go_wp2_with fail
  go_ret2
  exact ⟨rfl, HT.out, o4.out⟩
theorem bind_arg (id : Int) (h : TabAt w c n I) (h1 : id < 1) : Calls Try.prog 10 #[.pointer (some ⟨c.t, 0, none⟩), .int .i64 id] w (TabPost (.tuple #[.int .i64 0, .int .i64 2]) c n I w) := by
  have HT := Lib.hid h
  have hd : decide (id < 1) = true := decide_eq_true h1
  clear h
  go_enter Try.func10, Try.ntmps10
  go_wp2_with fail
  go_ret2
  exact ⟨rfl, HT.out, Only.refl _ _⟩
theorem bind_has (id : Int) (s : Nat) (h : TabAt w c n I) (h1 : 1 ≤ id) (h0 : SlotIs n I id s) (hs : 1 ≤ s) : Calls Try.prog 10 #[.pointer (some ⟨c.t, 0, none⟩), .int .i64 id] w (TabPost (.tuple #[.int .i64 s, .int .i64 0]) c n I w) := by
  have HT := Lib.hid h
  have HSl : Hid (Calls Try.prog 16 #[.pointer (some ⟨c.t, 0, none⟩), .int .i64 id] w (Told (.tuple #[.int .i64 s, .bool true]) w)) := by
    have := slot_at id s h h0
    rw [decide_eq_true (by omega)] at this
    exact this
  have hd : decide (id < 1) = false := decide_eq_false (by omega)
  clear h h0
  go_enter Try.func10, Try.ntmps10
  go_wp2_with fail
  refine HSl.out.mono ?_
  rintro e w1 ⟨rfl, rfl⟩
  go_wp2_with fail
  go_ret2
  exact ⟨rfl, HT.out, Only.refl _ _⟩
theorem bind_full (id : Int) (h : TabAt w c n I) (h1 : 1 ≤ id) (h0 : SlotIs n I id 0) (hf : ∀ i, i < n → I i ≠ 0) : Calls Try.prog 10 #[.pointer (some ⟨c.t, 0, none⟩), .int .i64 id] w (TabPost (.tuple #[.int .i64 0, .int .i64 3]) c n I w) := by
  have HT := Lib.hid h
  have HSl : Hid (Calls Try.prog 16 #[.pointer (some ⟨c.t, 0, none⟩), .int .i64 id] w (Told (.tuple #[.int .i64 0, .bool false]) w)) := slot_at id 0 h h0
  have hd : decide (id < 1) = false := decide_eq_false (by omega)
  have hlen := len_at h
  rw [cntI_full hf] at hlen
  have HLen := Lib.hid hlen
  have HSz := Lib.hid (size_at h)
  clear h h0 hf hlen
  go_enter Try.func10, Try.ntmps10
  go_wp2_with fail
  refine HSl.out.mono ?_
  rintro e w1 ⟨rfl, rfl⟩
  go_wp2_with fail
  refine HLen.out.mono ?_
  rintro e w1 ⟨rfl, rfl⟩
  go_wp2_with fail
  refine HSz.out.mono ?_
  rintro e w1 ⟨rfl, rfl⟩
  go_wp2_with fail
  go_ret2
  exact ⟨rfl, HT.out, Only.refl _ _⟩
/-- Bind. -/
theorem bind_at (id : Int) (s : Nat) (t : Int) (I' : Nat → Int) (h : TabAt w c n I) (h2 : id ≤ 9223372036854775807) (hb : BindIs n I id s t I') : Calls Try.prog 10 #[.pointer (some ⟨c.t, 0, none⟩), .int .i64 id] w (TabPost (.tuple #[.int .i64 s, .int .i64 t]) c n I' w) := by
  rcases hb with ⟨h1, rfl, rfl, rfl⟩ | ⟨h1, hs, h0, rfl, rfl⟩ | ⟨h1, h0, hf, rfl, rfl, rfl⟩ | ⟨h1, h0, hl, rfl, rfl⟩
  · exact bind_arg id h h1
  · exact bind_has id s h h1 h0 hs
  · exact bind_full id h h1 h0 hf
  · exact bind_new id s h h1 h2 h0 hl
end
end Go.Proofs.Ythooeehobhegbaa
