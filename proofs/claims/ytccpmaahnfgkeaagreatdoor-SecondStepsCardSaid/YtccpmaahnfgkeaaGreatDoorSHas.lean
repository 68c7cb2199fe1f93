/- What the functions New, Has, Made, Used and check of package second do. No condition but those that each statement names. -/
import Derived.Test.YtccpmaahnfgkeaaGreatDoorSSp
namespace Go.Proofs.YtccpmaahnfgkeaaGreatDoor
set_option maxRecDepth 1000000
open Go.ChangeShapes Go.WideShapes Go.ChangeAt Go.RowKit
open Wd (Ob okO encO refsO ObjAt In64 I64)

/-- What tells v, and leaves the space as it is. -/
def Tells (v : Value) (c : Sc) (n u m : Nat) (L : List Ent) (w : World) (e : Ending) (w' : World) : Prop := e = .returned v ∧ SecAt w' c n u m L ∧ Below w.heap.size w w'

theorem has_any (c : Sc) (n u m : Nat) (L : List Ent) (i : Int) (hi : W64 i) (w : World) (h : SecAt w c n u m L) :
    Calls Tryz.prog 18 #[.pointer (some ⟨c.q, 0, none⟩), .int .i64 i] w (Tells (.bool (hasE L i)) c n u m L w) := by
  have c1 := h.c1
  have hl := h.pl.look i hi
  rw [pl_isSome] at hl
  have HS := Lib.hid h
  generalize hasE L i = b at hl ⊢
  have hx : xv (atX (plOf L) i) = .agg #[.int .i64 (atX (plOf L) i).f, .int .i64 (atX (plOf L) i).n, .int .i64 (atX (plOf L) i).s] := rfl
  rw [hx] at hl
  generalize (atX (plOf L) i).f = x1 at hl
  generalize (atX (plOf L) i).n = x2 at hl
  generalize (atX (plOf L) i).s = x3 at hl
  clear h hx
  go_enter Tryz.func18, Tryz.ntmps18
  go_wp2
  go_ret
  exact ⟨rfl, HS.out.fresh ((Below.refl _ _).alloc (Nat.le_refl _) _), (Below.refl _ _).alloc (Nat.le_refl _) _⟩

theorem made_any (c : Sc) (n u m : Nat) (L : List Ent) (w : World) (h : SecAt w c n u m L) :
    Calls Tryz.prog 19 #[.pointer (some ⟨c.q, 0, none⟩)] w fun e w' => e = .returned (.int .i64 m) ∧ w = w' := by
  have c0 := h.c0
  clear h
  go_enter Tryz.func19, Tryz.ntmps19
  go_wp2
  go_ret
  exact ⟨rfl, rfl⟩

theorem used_any (c : Sc) (n u m : Nat) (L : List Ent) (w : World) (h : SecAt w c n u m L) :
    Calls Tryz.prog 16 #[.pointer (some ⟨c.q, 0, none⟩)] w (Tells (.int .i64 (total (rowsE L))) c n u m L w) := by
  have c2 := h.c2
  have HU := Lib.hid (eused_any c.s n u (rowsE L) w h.sp)
  have HS := Lib.hid h
  clear h
  go_enter Tryz.func16, Tryz.ntmps16
  go_wp2_with (go_at_call 39; refine HU.out.mono ?_; rintro e w1 ⟨rfl, _, hb⟩)
  go_ret
  exact ⟨rfl, HS.out.fresh hb, hb⟩

def NewS (n : Nat) (w : World) (e : Ending) (w' : World) : Prop :=
  ∃ c : Sc, e = .returned (.tuple #[.pointer (some ⟨c.q, 0, none⟩), .int .i64 0]) ∧ SecAt w' c n 0 0 [] ∧ w.heap.size ≤ c.s.lo ∧ Below w.heap.size w w'
set_option maxHeartbeats 1000000 in
theorem snew_yes (n : Nat) (w : World) (hn : n ≤ 20000) (hT : Tab w) (h0 : 0 < w.heap.size) : Calls Tryz.prog 6 #[.int .i64 n] w (NewS n w) := by
  have hmm := @run_makeMap Tryz.prog
  have HD := Lib.hid (enew_yes n w hn hT h0)
  clear hT
  go_enter Tryz.func6, Tryz.ntmps6
  go_wp2_with fail
  refine HD.out.mono ?_
  rintro e w1 ⟨s, rfl, s1, hlo, b1⟩
  have S1 := Lib.hid s1
  have B1 := Lib.hid b1
  have HLO := Lib.hid hlo
  clear s1 b1 hlo HD
  go_wp2_with fail
  go_ret2
  have s1 := S1.out
  have hlt := s1.lt
  have a1 : Below w1.heap.size w1 (w1.alloc (.map #[] 0)) := (Below.refl _ _).alloc (Nat.le_refl _) _
  have a2 : ∀ o, Below w1.heap.size w1 ((w1.alloc (.map #[] 0)).alloc o) := fun o => a1.alloc a1.size _
  refine ⟨⟨s, w1.heap.size, w1.heap.size + 1⟩, rfl, ⟨?_, ?_, ?_, ?_, ?_, s1.fresh (a2 _), ⟨List.Pairwise.nil, fun e he => (by cases he), fun e he => (by cases he)⟩, ⟨hlt, by show w1.heap.size < w1.heap.size + 1; omega⟩, by simp, by omega⟩, HLO.out, ?_⟩
  · rw [World.cell?_alloc_at _ _ _ _ (by simp)]; rfl
  · rw [World.cell?_alloc_at _ _ _ _ (by simp)]; rfl
  · rw [World.cell?_alloc_at _ _ _ _ (by simp)]; rfl
  · have := frozen_top (w1.alloc (.map #[] 0)) #[.int .i64 0, .map (some w1.heap.size), .pointer (some ⟨s.sp, 0, none⟩)] 69 0
    rwa [World.size_alloc] at this
  · exact (pl_made w1).fresh ((Below.refl _ _).alloc (Nat.le_refl _) _)
  · exact B1.out.trans ((a2 _).mono B1.out.size)
theorem snew_no (n : Int) (w : World) (hn : n < 0 ∨ 20000 < n) : Calls Tryz.prog 6 #[.int .i64 n] w fun e w' => e = .returned (.tuple #[.pointer none, .int .i64 2]) ∧ w = w' := by
  have HD := Lib.hid (enew_no n w hn)
  clear hn
  go_enter Tryz.func6, Tryz.ntmps6
  go_wp2_with (go_at_call 25; refine HD.out.mono ?_; rintro e w1 ⟨rfl, rfl⟩)
  go_ret2
  exact ⟨rfl, rfl⟩
theorem make_nil (v : Value) (w : World) (x y z u : Value) (hv : v = .agg #[x, y, z, u]) : Calls Tryz.prog 7 #[.pointer none, v] w fun e w' => e = .returned (.tuple #[.int .i64 0, .int .i64 1]) ∧ Below w.heap.size w w' := by
  subst hv
  go_enter Tryz.func7, Tryz.ntmps7
  go_wp2
  go_ret2
  exact ⟨rfl, (Below.refl _ _).alloc (Nat.le_refl _) _⟩
end Go.Proofs.YtccpmaahnfgkeaaGreatDoor
