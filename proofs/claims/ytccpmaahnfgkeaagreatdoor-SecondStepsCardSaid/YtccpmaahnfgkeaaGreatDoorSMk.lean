/- What the function Make of package second does. No condition but those that each statement names. -/
import Derived.Test.YtccpmaahnfgkeaaGreatDoorSChk
namespace Go.Proofs.YtccpmaahnfgkeaaGreatDoor
set_option maxRecDepth 1000000
open Go.ChangeShapes Go.WideShapes Go.ChangeAt Go.RowKit
open Wd (Ob okO encO refsO ObjAt In64 I64)

def szO (o : Ob) : Nat := secs (encO o).length
/-- What Make tells of an object, and what the space holds then. -/
def MakeIs (n m : Nat) (L : List Ent) (o : Ob) (id t : Int) (m' : Nat) (L' : List Ent) : Prop :=
  (okO o = false ∧ id = 0 ∧ t = 2 ∧ m' = m ∧ L' = L) ∨
  (okO o = true ∧ id = 0 ∧ t = 3 ∧ m' = m ∧ L' = L ∧ (1048576 ≤ m ∨ ∃ a, FirstIs (tk (rowsE L)) n (szO o) a false)) ∨
  (okO o = true ∧ m < 1048576 ∧ id = (m : Int) + 1 ∧ t = 0 ∧ m' = m + 1 ∧ ∃ a, FirstIs (tk (rowsE L)) n (szO o) a true ∧ L' = L ++ [⟨m + 1, o, a⟩])
def MakePost (c : Sc) (n u m' : Nat) (L' : List Ent) (id t : Int) (w : World) (e : Ending) (w' : World) : Prop :=
  e = .returned (.tuple #[.int .i64 id, .int .i64 t]) ∧ SecAt w' c n u m' L' ∧ Only c.F w w'

theorem enc_bytes {o : Ob} (h : Wd.ByL o.b) : Bytes (encO o) := by
  unfold encO
  refine Wd.ByL.app (Wd.byL_allB _) ?_
  split
  · exact Wd.byL_allB _
  · exact h
theorem box35 (w : World) (x y z u : Value) : Below w.heap.size w (w.alloc (.cells #[x, y, z, u] 35)) := (Below.refl _ _).alloc (Nat.le_refl _) _

theorem make_bad (c : Sc) (n u m : Nat) (L : List Ent) (v : Value) (o : Ob) (w : World) (h : SecAt w c n u m L) (ho : ObjAt w v o) (hok : okO o = false) :
    Calls Tryz.prog 7 #[.pointer (some ⟨c.q, 0, none⟩), v] w (MakePost c n u m L 0 2 w) := by
  have HS := Lib.hid h
  have HO := Lib.hid ho
  obtain ⟨wv, bv, rfl, _⟩ := ho
  have HC := Lib.hid (Wd.encode_not _ o _ (HO.out.kept (box35 w (.int .i64 o.c) (.int .i64 o.k) wv bv)) hok)
  clear h hok
  go_enter Tryz.func7, Tryz.ntmps7
  go_wp2_with fail
  refine HC.out.mono ?_
  rintro e w1 ⟨rfl, hb⟩
  have B1 : Hid (Below w.heap.size w w1) := (box35 w _ _ _ _).trans (hb.mono (by simp))
  clear hb
  go_wp2
  go_ret2
  exact ⟨rfl, HS.out.fresh B1.out, Only.of_below B1.out⟩

theorem make_old (c : Sc) (n u m : Nat) (L : List Ent) (v : Value) (o : Ob) (w : World) (h : SecAt w c n u m L) (ho : ObjAt w v o) (hok : okO o = true) (hm : 1048576 ≤ m) :
    Calls Tryz.prog 7 #[.pointer (some ⟨c.q, 0, none⟩), v] w (MakePost c n u m L 0 3 w) := by
  have HS := Lib.hid h
  have HO := Lib.hid ho
  obtain ⟨wv, bv, rfl, _⟩ := ho
  have HC := Lib.hid (Wd.encode_yes _ o _ (HO.out.kept (box35 w (.int .i64 o.c) (.int .i64 o.k) wv bv)) hok)
  have hm2 : (1048576 : Int) ≤ m := by omega
  clear h hok hm
  go_enter Tryz.func7, Tryz.ntmps7
  go_wp2_with fail
  refine HC.out.mono ?_
  rintro e w1 ⟨v1, rfl, hown, hb⟩
  have B1 : Hid (Below w.heap.size w w1) := (box35 w _ _ _ _).trans (hb.mono (by simp))
  have S1 := Lib.hid (HS.out.fresh B1.out)
  have c0 := S1.out.c0
  clear hb hown
  go_wp2
  go_ret2
  exact ⟨rfl, S1.out, Only.of_below B1.out⟩

theorem s_not {c : Sc} {w : World} {n u m : Nat} {L : List Ent} (h : SecAt w c n u m L) : ¬ c.s.F c.q ∧ ¬ c.s.F c.pm := by
  have := h.ord
  exact ⟨fun h => by have := h.2; omega, fun h => by have := h.2; omega⟩
theorem SecAt.inner {w w' : World} {c : Sc} {n u u' m : Nat} {L : List Ent} (h : SecAt w c n u m L) (o : Only c.s.F w w') (hs : SpaceAt w' c.s n u' (rowsE L)) (hu : u ≤ u') : SecAt w' c n u' m L :=
  ⟨(o.cell (p := ⟨c.q, 0, none⟩) h.lt (s_not h).1).trans h.c0, (o.cell (p := ⟨c.q, 1, none⟩) h.lt (s_not h).1).trans h.c1, (o.cell (p := ⟨c.q, 2, none⟩) h.lt (s_not h).1).trans h.c2,
    (o.frozen (p := ⟨c.q, 0, none⟩) h.lt (s_not h).1).trans h.fz, (h.pl.only o (s_not h).2).mono hu, hs, h.good, h.ord, Nat.lt_of_lt_of_le h.lt o.size, h.few⟩

set_option maxHeartbeats 1000000 in
theorem make_full (c : Sc) (n u m : Nat) (L : List Ent) (v : Value) (o : Ob) (a : Nat) (w : World) (h : SecAt w c n u m L) (ho : ObjAt w v o) (hok : okO o = true) (hm : m < 1048576) (hF : FirstIs (tk (rowsE L)) n (szO o) a false) :
    Calls Tryz.prog 7 #[.pointer (some ⟨c.q, 0, none⟩), v] w (MakePost c n u m L 0 3 w) := by
  have HS := Lib.hid h
  have HO := Lib.hid ho
  have hle := (Wd.enc_le hok).2
  obtain ⟨wv, bv, rfl, _⟩ := ho
  have HC := Lib.hid (Wd.encode_yes _ o _ (HO.out.kept (box35 w (.int .i64 o.c) (.int .i64 o.k) wv bv)) hok)
  have hm' : decide ((1048576 : Int) ≤ (m : Int)) = false := decide_eq_false (by omega)
  have HF := Lib.hid hF
  clear h hok hF hm
  go_enter Tryz.func7, Tryz.ntmps7
  go_wp2_with fail
  refine HC.out.mono ?_
  rintro e w1 ⟨v1, rfl, hown, hb⟩
  have B1 : Hid (Below w.heap.size w w1) := (box35 w _ _ _ _).trans (hb.mono (by simp))
  have S1 := Lib.hid (HS.out.fresh B1.out)
  have c0 := S1.out.c0
  have c2 := S1.out.c2
  have HP := Lib.hid (put_no (N := _) c.s n u (rowsE L) a v1 (encO o) w1 S1.out.sp (Vals.of_own (by rw [List.length_map]; exact hown)) (by omega) HF.out)
  clear hb hown
  go_wp2_with fail
  refine HP.out.mono ?_
  rintro e w2 ⟨rfl, s2, o2⟩
  have O2 := Lib.hid o2
  have S2 := Lib.hid (S1.out.inner o2 s2 (Nat.le_refl _))
  clear s2 o2
  go_wp2
  go_ret2
  have hb : ∀ o, Below w2.heap.size w2 (w2.alloc o) := fun o => (Below.refl _ _).alloc (Nat.le_refl _) _
  exact ⟨rfl, S2.out.fresh (hb _), ((Only.of_below B1.out).then_ O2.out (fun i _ hi => c.inner HS.out i hi)).then_ (Only.of_below (F := c.F) (hb _)) (fun _ _ h => h)⟩
end Go.Proofs.YtccpmaahnfgkeaaGreatDoor
