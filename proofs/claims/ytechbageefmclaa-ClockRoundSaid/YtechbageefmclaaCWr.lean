/- What the functions of package clock that write one element, or the hand, do. No condition but those that each statement names. -/
import Derived.Test.YtechbageefmclaaCAt
namespace Go.Proofs.Ytechbageefmclaa
set_option maxRecDepth 1000000
open Go.ChangeShapes Go.WideShapes Go.ChangeAt Go.RowKit

/-- One of the three cells of the element k has been written. -/
theorem ElV.put {w : World} {x n k : Nat} {E E' : Nat → El} (h : ElV w x n E) (hk : k < n) (o : Nat) (b : Bool) (ho : o < 3) (hE : ∀ j, j ≠ k → E' j = E j)
    (hk' : E' k = ⟨if o = 0 then b else (E k).t, if o = 1 then b else (E k).p, if o = 2 then b else (E k).i⟩) : ElV (w.setCell ⟨x, k * 3 + o, none⟩ (.bool b)) x n E' := fun j hj => by
  obtain ⟨h1, h2, h3⟩ := h j hj
  obtain ⟨k1, k2, k3⟩ := h k hk
  by_cases hjk : j = k
  · subst hjk
    rw [hk']
    match o, ho with
    | 0, _ => exact ⟨World.cell?_setCell_same _ _ _ k1, by rw [World.cell?_setCell_other _ _ _ _ (by simp)]; exact k2, by rw [World.cell?_setCell_other _ _ _ _ (by simp)]; exact k3⟩
    | 1, _ => exact ⟨by rw [World.cell?_setCell_other _ _ _ _ (by simp)]; exact k1, World.cell?_setCell_same _ _ _ k2, by rw [World.cell?_setCell_other _ _ _ _ (by simp)]; exact k3⟩
    | 2, _ => exact ⟨by rw [World.cell?_setCell_other _ _ _ _ (by simp)]; exact k1, by rw [World.cell?_setCell_other _ _ _ _ (by simp)]; exact k2, World.cell?_setCell_same _ _ _ k3⟩
  · rw [hE j hjk]
    refine ⟨?_, ?_, ?_⟩ <;> (rw [World.cell?_setCell_other _ _ _ _ (by intro e; injection e with _ e2; omega)]; assumption)
section
variable {w w' : World} {c : Ck} {n h : Nat} {E E' : Nat → El} {F : Nat → Prop}
theorem ClkAt.el_put (a : ClkAt w c n E h) {k : Nat} (hk : k < n) (o : Nat) (b : Bool) (ho : o < 3) (hE : ∀ j, j ≠ k → E' j = E j)
    (hk' : E' k = ⟨if o = 0 then b else (E k).t, if o = 1 then b else (E k).p, if o = 2 then b else (E k).i⟩) : ClkAt (w.setCell ⟨c.e, k * 3 + o, none⟩ (.bool b)) c n E' h := by
  have o' := only_set w ⟨c.e, k * 3 + o, none⟩ (.bool b)
  have hs := o'.size
  obtain ⟨l1, l2⟩ := a.lt
  have hne : ¬ c.t = c.e := Ne.symm a.ne
  exact ⟨(o'.cell (p := ⟨c.t, 0, none⟩) l2 hne).trans a.c0, (o'.cell (p := ⟨c.t, 1, none⟩) l2 hne).trans a.c1, fun j => (o'.frozen (p := ⟨c.t, j, none⟩) l2 hne).trans (a.fz j), a.el.put hk o b ho hE hk',
    fun j => by rw [World.frozen?_setCell]; exact a.fe j, a.ne, ⟨by omega, by omega⟩, a.hand, a.small⟩
theorem ClkAt.hand_put (a : ClkAt w c n E h) {h' : Nat} (hh : h' < n ∨ n = 0 ∧ h' = 0) : ClkAt (w.setCell ⟨c.t, 1, none⟩ (.int .i64 h')) c n E h' := by
  have o' := only_set w ⟨c.t, 1, none⟩ (.int .i64 h')
  have hs := o'.size
  obtain ⟨l1, l2⟩ := a.lt
  refine ⟨?_, ?_, fun j => by rw [World.frozen?_setCell]; exact a.fz j, a.el.only o' a.ne, fun j => (o'.frozen (p := ⟨c.e, j, none⟩) l1 a.ne).trans (a.fe j), a.ne, ⟨by omega, by omega⟩, hh, a.small⟩
  · rw [World.cell?_setCell_other _ _ _ _ (by simp)]; exact a.c0
  · rw [World.cell?_setCell_same _ _ _ a.c1]
/-- What a call that may change the clock leaves. -/
def ClkPost (u : Value) (c : Ck) (n : Nat) (E' : Nat → El) (h' : Nat) (w : World) (e : Ending) (w' : World) : Prop := e = .returned u ∧ ClkAt w' c n E' h' ∧ Only (CF c) w w'
theorem pass_at (a : ClkAt w c n E h) (hn : h < n) : Calls Try.prog 18 #[.pointer (some ⟨c.t, 0, none⟩)] w (ClkPost (.int .i64 h) c n E ((h + 1) % n) w) := by
  have h0 := a.c0
  have h1 := a.c1
  have hf := a.fz 1
  have hs := a.small
  have HM : Hid (((h : Int) + 1) % (n : Int) = (((h + 1) % n : Nat) : Int)) := by
    show _ = _
    rw [Int.natCast_emod]; rfl
  have HW : Hid (ClkAt (w.setCell ⟨c.t, 1, none⟩ (.int .i64 (((h + 1) % n : Nat) : Int))) c n E ((h + 1) % n)) := a.hand_put (.inl (Nat.mod_lt _ (by omega)))
  have HO : Hid (Only (CF c) w (w.setCell ⟨c.t, 1, none⟩ (.int .i64 (((h + 1) % n : Nat) : Int)))) := (Only.refl (CF c) w).setCell ⟨c.t, 1, none⟩ (.inl (.inr rfl)) _
  have hp : (0 : Int) < n := by omega
  have hl : (h : Int) < n := by omega
  clear a
  go_enter Try.func18, Try.ntmps18
  go_wp2_with fail
  go_ret
  rw [← HM.out] at HW HO
  exact ⟨rfl, HW.out, HO.out⟩
/-- spared, of the element k that is present. -/
theorem spared_at (k : Nat) (hk : k < n) (a : ClkAt w c n E h) (hi : (E k).i = true) : Calls Try.prog 19 #[.pointer (some ⟨c.e, k * 3, none⟩)] w (ClkPost (.bool (!hit (E k))) c n (look E k) h w) := by
  obtain ⟨e0, e1, e2⟩ := a.el k hk
  have f0 := a.fe (k * 3)
  cases hp : (E k).p with
  | true =>
    have hg : goes (E k) = false := by unfold goes; rw [hp]; simp
    have hh : hit (E k) = false := by unfold hit; rw [hg]; rfl
    rw [hh, look_id hg]
    rw [hp] at e1
    have HA := Lib.hid a
    clear a hg hh hp hi
    go_enter Try.func19, Try.ntmps19
    go_wp2_with fail
    go_ret
    exact ⟨rfl, HA.out, Only.refl _ _⟩
  | false =>
    have hg : goes (E k) = true := by unfold goes; rw [hp, hi]; rfl
    have hh : (!hit (E k)) = (E k).t := by unfold hit; rw [hg]; simp
    rw [hh]
    rw [hp] at e1
    have HA : Hid (ClkAt (w.setCell ⟨c.e, k * 3, none⟩ (.bool false)) c n (look E k) h) := a.el_put (E' := look E k) hk 0 false (by omega) (fun j hj => look_ne _ hj) (by unfold look; rw [if_pos hg, upd_at]; rfl)
    have HO : Hid (Only (CF c) w (w.setCell ⟨c.e, k * 3, none⟩ (.bool false))) := (Only.refl (CF c) w).setCell ⟨c.e, k * 3, none⟩ (.inl (.inl rfl)) _
    clear a hg hh hp hi
    generalize (E k).t = bt at *
    go_enter Try.func19, Try.ntmps19
    go_wp2_with fail
    go_ret
    exact ⟨rfl, HA.out, HO.out⟩
/-- The element k, touched. -/
def tch (E : Nat → El) (k : Nat) : Nat → El := upd E k ⟨true, (E k).p, (E k).i⟩
theorem touch_one (k : Nat) (hk : k < n) (a : ClkAt w c n E h) : Calls Try.prog 21 #[.pointer (some ⟨c.e, k * 3, none⟩)] w (ClkPost (.tuple #[]) c n (tch E k) h w) := by
  have e0 := (a.el k hk).1
  have f0 := a.fe (k * 3)
  have HA : Hid (ClkAt (w.setCell ⟨c.e, k * 3, none⟩ (.bool true)) c n (tch E k) h) := a.el_put (E' := tch E k) hk 0 true (by omega) (fun j hj => upd_ne _ _ hj) (by unfold tch; rw [upd_at]; rfl)
  have HO : Hid (Only (CF c) w (w.setCell ⟨c.e, k * 3, none⟩ (.bool true))) := (Only.refl (CF c) w).setCell ⟨c.e, k * 3, none⟩ (.inl (.inl rfl)) _
  clear a
  generalize (E k).t = bt at e0
  go_enter Try.func21, Try.ntmps21
  go_wp2_with fail
  go_end0
  exact ⟨rfl, HA.out, HO.out⟩
/-- The element k, pinned or not. -/
def pnd (E : Nat → El) (k : Nat) (on : Bool) : Nat → El := upd E k ⟨(E k).t, on, (E k).i⟩
theorem pin_one (k : Nat) (on : Bool) (hk : k < n) (a : ClkAt w c n E h) : Calls Try.prog 22 #[.pointer (some ⟨c.e, k * 3, none⟩), .bool on] w (ClkPost (.tuple #[]) c n (pnd E k on) h w) := by
  have e0 := (a.el k hk).2.1
  have f0 := a.fe (k * 3 + 1)
  have HA : Hid (ClkAt (w.setCell ⟨c.e, k * 3 + 1, none⟩ (.bool on)) c n (pnd E k on) h) := a.el_put (E' := pnd E k on) hk 1 on (by omega) (fun j hj => upd_ne _ _ hj) (by unfold pnd; rw [upd_at]; rfl)
  have HO : Hid (Only (CF c) w (w.setCell ⟨c.e, k * 3 + 1, none⟩ (.bool on))) := (Only.refl (CF c) w).setCell ⟨c.e, k * 3 + 1, none⟩ (.inl (.inl rfl)) _
  clear a
  generalize (E k).p = bt at e0
  go_enter Try.func22, Try.ntmps22
  go_wp2_with fail
  go_end0
  exact ⟨rfl, HA.out, HO.out⟩
end
end Go.Proofs.Ytechbageefmclaa
