/- A table in memory behind one store; what the function remove of package names does. No condition but those that each statement names. -/
import Derived.Test.YthooeehobhegbaaNFi
import Derived.Deep.QuietTactic
import Derived.BigQuiet
import Derived.RegionTactic
namespace Go.Proofs.Ythooeehobhegbaa
set_option maxRecDepth 1000000
open Go.ChangeShapes Go.WideShapes Go.ChangeAt Go.RowKit

theorem below_drewN {b : Nat} {w w' : World} (h : Below b w w') (d : Nat) : Below b w (w'.drewN d) := ⟨h.os, h.tape, h.output, h.size, h.block⟩
theorem RowV.put {w : World} {x n : Nat} {V V' : Nat → Int} (h : RowV w x n V) {p : Nat} (hp : p < n) (y : Int) (hy : V' p = y) (hV : ∀ j, j ≠ p → V' j = V j) : RowV (w.setCell ⟨x, p, none⟩ (.int .i64 y)) x n V' := fun j hj => by
  refine ⟨?_, by rw [World.frozen?_setCell]; exact (h j hj).2⟩
  by_cases hjp : j = p
  · subst hjp
    rw [World.cell?_setCell_same _ _ _ (h j hp).1, hy]
  · rw [World.cell?_setCell_other _ _ _ _ (by intro e; injection e with _ e2; first | exact hjp e2 | exact hjp e2.symm), (h j hj).1, hV j hjp]
theorem only_set (w : World) (p : Addr) (u : Value) : Only (· = p.block) w (w.setCell p u) := (Only.refl (· = p.block) w).setCell p (.inl rfl) u
section
variable {w w' : World} {c : Tb} {n bd low : Nat} {I : Nat → Int} {E : Nat → Nat}
theorem TabM.drewN (h : TabM w c n I E bd low) (q : Nat) : TabM (w.drewN q) c n I E bd low := h.fresh (below_drewN (Below.refl _ _) q)
theorem TabM.ent (h : TabM w c n I E bd low) {p : Nat} (hp : p < 2 * n) (y : Nat) : TabM (w.setCell ⟨c.e, p, none⟩ (.int .i64 y)) c n I (upd E p y) bd low := by
  have o := only_set w ⟨c.e, p, none⟩ (.int .i64 y)
  obtain ⟨h1, h2, h3⟩ := h.ord
  obtain ⟨l1, l2, l3⟩ := h.lt
  have hs := o.size
  exact ⟨(o.cell (p := ⟨c.t, 0, none⟩) l3 (Ne.symm h3)).trans h.c0, (o.cell (p := ⟨c.t, 1, none⟩) l3 (Ne.symm h3)).trans h.c1, (o.cell (p := ⟨c.t, 2, none⟩) l3 (Ne.symm h3)).trans h.c2, (o.cell (p := ⟨c.t, 3, none⟩) l3 (Ne.symm h3)).trans h.c3,
    fun j => (o.frozen (p := ⟨c.t, j, none⟩) l3 (Ne.symm h3)).trans (h.fz j), h.ra.only o h1, h.re.put hp y (by rw [upd_at]) (fun j hj => by rw [upd_ne _ _ hj]), h.ord, ⟨by omega, by omega, by omega⟩, h.small⟩
theorem TabM.idset (h : TabM w c n I E bd low) {p : Nat} (hp : p < n) (y : Int) : TabM (w.setCell ⟨c.a, p, none⟩ (.int .i64 y)) c n (upd I p y) E bd low := by
  have o := only_set w ⟨c.a, p, none⟩ (.int .i64 y)
  obtain ⟨h1, h2, h3⟩ := h.ord
  obtain ⟨l1, l2, l3⟩ := h.lt
  have hs := o.size
  exact ⟨(o.cell (p := ⟨c.t, 0, none⟩) l3 (Ne.symm h2)).trans h.c0, (o.cell (p := ⟨c.t, 1, none⟩) l3 (Ne.symm h2)).trans h.c1, (o.cell (p := ⟨c.t, 2, none⟩) l3 (Ne.symm h2)).trans h.c2, (o.cell (p := ⟨c.t, 3, none⟩) l3 (Ne.symm h2)).trans h.c3,
    fun j => (o.frozen (p := ⟨c.t, j, none⟩) l3 (Ne.symm h2)).trans (h.fz j), h.ra.put hp y (upd_at _ _ _) (fun j hj => upd_ne _ _ hj), h.re.only o (Ne.symm h1), h.ord, ⟨by omega, by omega, by omega⟩, h.small⟩
theorem TabM.bdset (h : TabM w c n I E bd low) (y : Nat) : TabM (w.setCell ⟨c.t, 2, none⟩ (.int .i64 y)) c n I E y low := by
  have o := only_set w ⟨c.t, 2, none⟩ (.int .i64 y)
  obtain ⟨h1, h2, h3⟩ := h.ord
  obtain ⟨l1, l2, l3⟩ := h.lt
  have hs := o.size
  refine ⟨?_, ?_, ?_, ?_, fun j => by rw [World.frozen?_setCell]; exact h.fz j, h.ra.only o h2, h.re.only o h3, h.ord, ⟨by omega, by omega, by omega⟩, h.small⟩
  · rw [World.cell?_setCell_other _ _ _ _ (by simp)]; exact h.c0
  · rw [World.cell?_setCell_other _ _ _ _ (by simp)]; exact h.c1
  · rw [World.cell?_setCell_same _ _ _ h.c2]
  · rw [World.cell?_setCell_other _ _ _ _ (by simp)]; exact h.c3
theorem TabM.lowset (h : TabM w c n I E bd low) (y : Nat) : TabM (w.setCell ⟨c.t, 3, none⟩ (.int .i64 y)) c n I E bd y := by
  have o := only_set w ⟨c.t, 3, none⟩ (.int .i64 y)
  obtain ⟨h1, h2, h3⟩ := h.ord
  obtain ⟨l1, l2, l3⟩ := h.lt
  have hs := o.size
  refine ⟨?_, ?_, ?_, ?_, fun j => by rw [World.frozen?_setCell]; exact h.fz j, h.ra.only o h2, h.re.only o h3, h.ord, ⟨by omega, by omega, by omega⟩, h.small⟩
  · rw [World.cell?_setCell_other _ _ _ _ (by simp)]; exact h.c0
  · rw [World.cell?_setCell_other _ _ _ _ (by simp)]; exact h.c1
  · rw [World.cell?_setCell_other _ _ _ _ (by simp)]; exact h.c2
  · rw [World.cell?_setCell_same _ _ _ h.c3]
end

/-- The entry at gap is gone; all others are found. -/
def RemPost (c : Tb) (n : Nat) (I : Nat → Int) (bd low s : Nat) (w : World) (e : Ending) (w' : World) : Prop :=
  e = .returned (.tuple #[]) ∧ ∃ E', TabM w' c n I E' bd low ∧ Hash n (homeN (2 * n)) (upd I (s - 1) 0) E' ∧ Only (· = c.e) w w'
/-- In the loop of remove. -/
structure RemAt (c : Tb) (n : Nat) (H : Int → Nat) (I : Nat → Int) (bd low s z : Nat) (w : World) (E : Nat → Nat) (gap a : Nat) (wr : World) : Prop where
  tab : TabM wr c n I E bd low
  rem : Rem n H I s E z gap a
  on : Only (· = c.e) w wr
section
variable {w : World} {c : Tb} {n bd low : Nat} {I : Nat → Int} {E : Nat → Nat}
set_option maxHeartbeats 4000000 in
theorem remove_any (gap s : Nat) (h : TabM w c n I E bd low) (hh : Hash n (homeN (2 * n)) I E) (hg : gap < 2 * n) (hs0 : E gap = s) (hs1 : 1 ≤ s) : Calls Try.prog 31 #[.pointer (some ⟨c.t, 0, none⟩), .int .i64 gap] w (RemPost c n I bd low s w) := by
  have hn : 0 < n := by omega
  have hsm := h.small
  obtain ⟨z, hz, hz0⟩ := hh.room hn
  have HL : Hid (∀ id, homeN (2 * n) id < 2 * n) := Lib.hid (fun id => homeN_lt (by omega) id)
  have HH : Hid (∀ (id : Int) (wr : World) (E' : Nat → Nat), TabM wr c n I E' bd low → Calls Try.prog 26 #[.pointer (some ⟨c.t, 0, none⟩), .int .i64 id] wr fun e w' => e = .returned (.int .i64 (homeN (2 * n) id)) ∧ w' = wr) := Lib.hid (fun id wr E' h => (home_any id h).mono fun e w' h => ⟨h.1, h.2.symm⟩)
  have HA : Hid (∀ (a : Nat) (wr : World) (E' : Nat → Nat), a < 2 * n → TabM wr c n I E' bd low → Calls Try.prog 27 #[.pointer (some ⟨c.t, 0, none⟩), .int .i64 a] wr fun e w' => e = .returned (.int .i64 (nx (2 * n) a)) ∧ wr = w') := Lib.hid (fun a wr E' ha h => after_any a ha h)
  have HS : Hid (∀ (a b : Nat) (wr : World) (E' : Nat → Nat), a < 2 * n → b < 2 * n → TabM wr c n I E' bd low → Calls Try.prog 35 #[.pointer (some ⟨c.t, 0, none⟩), .int .i64 a, .int .i64 b] wr fun e w' => e = .returned (.int .i64 (dst (2 * n) a b)) ∧ ∃ d, w' = wr.drewN d) := Lib.hid (fun a b wr E' ha hb h => steps_any a b ha hb h)
  have HR : Hid (RemAt c n (homeN (2 * n)) I bd low s z w E gap (nx (2 * n) gap) w) := Lib.hid ⟨h, rem_start hh hg hz hz0 hs0 (by omega), Only.refl _ _⟩
  have HT := Lib.hid h
  have hzg : dst (2 * n) (nx (2 * n) gap) z < 2 * n := dst_lt (nx_lt hg) hz
  unfold RemPost
  generalize homeN (2 * n) = H at HL HH HR ⊢
  clear h hh hz hz0 hs0
  go_enter Try.func31, Try.ntmps31
  go_wp2_with fail
  refine (HA.out gap w E hg HT.out).mono ?_
  rintro e w1 ⟨rfl, rfl⟩
  go_wp2_with fail
  go_loopg [1, 4] (2 * n) (fun g s1 s4 wr => ∃ (gap a : Nat) (E : Nat → Nat), s1 = .int .i64 gap ∧ s4 = .int .i64 a ∧ Hid (RemAt c n H I bd low s z w E gap a wr) ∧ dst (2 * n) a z < g)
  case atStart => exact ⟨gap, _, E, rfl, rfl, HR, hzg⟩
  case round =>
    clear HR HT hzg hg
    obtain ⟨gap, a, E, rfl, rfl, HR, hgk⟩ := hrel
    have ha := HR.out.rem.al
    have hg := HR.out.rem.gl
    have h0 := HR.out.tab.c0
    have h1 := HR.out.tab.c1
    have ce : wr.cell? ⟨c.e, a, none⟩ = some (.int .i64 ((E a : Nat) : Int)) := (HR.out.tab.re a ha).1
    by_cases he : E a = 0
    · rw [he] at ce
      have HE := Lib.hid he
      have cg : wr.cell? ⟨c.e, gap, none⟩ = some (.int .i64 ((E gap : Nat) : Int)) := (HR.out.tab.re gap hg).1
      have cf := (HR.out.tab.re gap hg).2
      clear he
      generalize E gap = y at cg
      go_wp2
      go_end0
      exact ⟨rfl, _, HR.out.tab.ent hg 0, HR.out.rem.done HL.out hs1 HE.out, HR.out.on.setCell _ (.inl rfl) _⟩
    · have hel := HR.out.rem.rng a ha
      obtain ⟨i, hi⟩ : ∃ i, E a = i + 1 := ⟨E a - 1, by omega⟩
      rw [hi] at ce hel
      have HE : Hid (E a = i + 1) := hi
      have hin : i < n := by omega
      have ci := (HR.out.tab.ra i hin).1
      obtain ⟨u, hu⟩ : ∃ u, I i = u := ⟨_, rfl⟩
      have HU := Lib.hid hu
      rw [hu] at ci
      have hd : (((i + 1 : Nat) : Int) != 0) = true := by simp; omega
      have HQ : Hid (∀ q, Calls Try.prog 26 #[.pointer (some ⟨c.t, 0, none⟩), .int .i64 u] (wr.drewN q) fun e w' => e = .returned (.int .i64 (H u)) ∧ w' = wr.drewN q) := Lib.hid (fun q => HH.out u _ E (HR.out.tab.drewN q))
      have hHu := HL.out u
      clear he hi hu
      go_wp2_with fail
      go_quiet (first | (go_at_call 26; exact Calls.quiet_of_same (HQ.out _)))
      have HR1 : Hid (RemAt c n H I bd low s z w E gap a (wr.drewN nq)) := ⟨HR.out.tab.drewN nq, HR.out.rem, HR.out.on.drewN nq⟩
      clear HR HQ h0 h1 ce ci
      generalize wr.drewN nq = w1 at HR1 ⊢
      go_wp2_with fail
      refine (HS.out (H u) a w1 E hHu ha HR1.out.tab).mono ?_
      rintro e w2 ⟨rfl, d, hw2⟩
      have HR2 : Hid (RemAt c n H I bd low s z w E gap a w2) := by
        show RemAt c n H I bd low s z w E gap a w2
        rw [hw2]
        exact ⟨HR1.out.tab.drewN d, HR1.out.rem, HR1.out.on.drewN d⟩
      clear hw2 HR1
      go_wp2_with fail
      refine (HS.out gap a w2 E hg ha HR2.out.tab).mono ?_
      rintro e w3 ⟨rfl, d3, hw3⟩
      have HR3 : Hid (RemAt c n H I bd low s z w E gap a w3) := by
        show RemAt c n H I bd low s z w E gap a w3
        rw [hw3]
        exact ⟨HR2.out.tab.drewN d3, HR2.out.rem, HR2.out.on.drewN d3⟩
      clear hw3 HR2
      have hgo := HR3.out.rem.go (by rw [HE.out]; omega)
      have hgz : dst (2 * n) (nx (2 * n) a) z + 1 = dst (2 * n) a z := hgo.2.2.2.1
      clear hgo
      have hHa : Hid (H (I (E a - 1)) = H u) := by
        show _ = _
        rw [HE.out, show i + 1 - 1 = i by omega, HU.out]
      by_cases hdd : dst (2 * n) gap a ≤ dst (2 * n) (H u) a
      · have hd2 : (dst (2 * n) gap a : Int) ≤ (dst (2 * n) (H u) a : Int) := by omega
        have HM : Hid (Rem n H I s (upd E gap (i + 1)) z a (nx (2 * n) a)) := by
          have := HR3.out.rem.move (by rw [hHa.out]; exact hHu) (by rw [HE.out]; omega) (by rw [hHa.out]; exact hdd)
          rw [HE.out] at this
          exact this
        generalize dst (2 * n) gap a = D1 at hd2 ⊢
        generalize dst (2 * n) (H u) a = D2 at hd2 ⊢
        clear hdd
        have h0 := HR3.out.tab.c0
        have h1 := HR3.out.tab.c1
        have ce : w3.cell? ⟨c.e, a, none⟩ = some (.int .i64 ((E a : Nat) : Int)) := (HR3.out.tab.re a ha).1
        rw [HE.out] at ce
        have cg : w3.cell? ⟨c.e, gap, none⟩ = some (.int .i64 ((E gap : Nat) : Int)) := (HR3.out.tab.re gap hg).1
        have cf := (HR3.out.tab.re gap hg).2
        generalize E gap = y at cg
        go_wp2_with fail
        go_region
        have HR4 : Hid (RemAt c n H I bd low s z w (upd E gap (i + 1)) a (nx (2 * n) a) (w3.setCell ⟨c.e, gap, none⟩ (.int .i64 ((i : Int) + 1))).drew) := by
          have t := (HR3.out.tab.ent hg (i + 1)).drewN 1
          have o := (HR3.out.on.setCell ⟨c.e, gap, none⟩ (.inl rfl) (.int .i64 ((i : Int) + 1))).drewN 1
          exact ⟨t, HM.out, o⟩
        clear h0 h1 ce cg cf HR3 HM
        generalize (w3.setCell ⟨c.e, gap, none⟩ (.int .i64 ((i : Int) + 1))).drew = w4 at HR4 ⊢
        go_wp2_with fail
        refine (HA.out a w4 _ ha HR4.out.tab).mono ?_
        rintro e w5 ⟨rfl, rfl⟩
        go_wp2_with fail
        go_roundg (dst (2 * n) a z)
        case rel => exact ⟨a, nx (2 * n) a, upd E gap (i + 1), rfl, rfl, HR4, by omega⟩
        case measure => omega
      · have hd2 : ¬ ((dst (2 * n) gap a : Int) ≤ (dst (2 * n) (H u) a : Int)) := by omega
        have HM : Hid (Rem n H I s E z gap (nx (2 * n) a)) := HR3.out.rem.stay (by rw [hHa.out]; exact hHu) (by rw [HE.out]; omega) (by rw [hHa.out]; exact hdd)
        generalize dst (2 * n) gap a = D1 at hd2 ⊢
        generalize dst (2 * n) (H u) a = D2 at hd2 ⊢
        clear hdd
        go_wp2_with fail
        refine (HA.out a w3 E ha HR3.out.tab).mono ?_
        rintro e w4 ⟨rfl, rfl⟩
        go_wp2_with fail
        go_roundg (dst (2 * n) a z)
        case rel => exact ⟨gap, nx (2 * n) a, E, rfl, rfl, Lib.hid ⟨HR3.out.tab, HM.out, HR3.out.on⟩, by omega⟩
        case measure => omega
end
end Go.Proofs.Ythooeehobhegbaa
