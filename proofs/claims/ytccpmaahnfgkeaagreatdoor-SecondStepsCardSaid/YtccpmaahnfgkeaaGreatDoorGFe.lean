/- What Make of the chapter tells where it makes nothing. -/
import Derived.Test.YtccpmaahnfgkeaaGreatDoorGFd
namespace Go.Proofs.YtccpmaahnfgkeaaGreatDoor
set_option maxRecDepth 1000000
open Go.ChangeShapes Go.WideShapes Go.ChangeAt Go.RowKit
open Wd (Ob okO encO refsO ObjAt In64 I64)
open R4 (RV rowsOf RowsV)

def MkNo (v : Value) (n m : Nat) (t : Int) (w : World) (e : Ending) (w' : World) : Prop :=
  e = .returned (.tuple #[.agg #[v, .int .i64 n, .int .i64 m], .int .i64 0, .int .i64 t]) ∧ Below w.heap.size w w'
theorem mk_entry (w : World) (v x y z u : Value) (n m : Int) :
    BoxS (((w.alloc (.cells #[v, .int .i64 n, .int .i64 m] 32)).alloc (.cells #[x, y, z, u] 35)).alloc (.cells #[.slice none 0 0, .int .i64 0, .int .i64 0] 32)) w.heap.size v n m ∧
    Wd.Box (w.heap.size + 1) x y z u (((w.alloc (.cells #[v, .int .i64 n, .int .i64 m] 32)).alloc (.cells #[x, y, z, u] 35)).alloc (.cells #[.slice none 0 0, .int .i64 0, .int .i64 0] 32)) ∧
    BoxS (((w.alloc (.cells #[v, .int .i64 n, .int .i64 m] 32)).alloc (.cells #[x, y, z, u] 35)).alloc (.cells #[.slice none 0 0, .int .i64 0, .int .i64 0] 32)) (w.heap.size + 2) (.slice none 0 0) 0 0 ∧
    Below w.heap.size w (((w.alloc (.cells #[v, .int .i64 n, .int .i64 m] 32)).alloc (.cells #[x, y, z, u] 35)).alloc (.cells #[.slice none 0 0, .int .i64 0, .int .i64 0] 32)) ∧
    (((w.alloc (.cells #[v, .int .i64 n, .int .i64 m] 32)).alloc (.cells #[x, y, z, u] 35)).alloc (.cells #[.slice none 0 0, .int .i64 0, .int .i64 0] 32)).heap.size = w.heap.size + 3 := by
  have b1 : ∀ (w : World) (o : Obj), Below w.heap.size w (w.alloc o) := fun w o => (Below.refl _ _).alloc (Nat.le_refl _) _
  refine ⟨((boxS_new w v n m 32).fresh (b1 _ _)).fresh (b1 _ _), ?_, ?_, ?_, by simp⟩
  · have h := Wd.box_new (w.alloc (.cells #[v, .int .i64 n, .int .i64 m] 32)) x y z u
    rw [World.size_alloc] at h
    exact h.kept (B := w.heap.size + 2) (by have := b1 ((w.alloc (.cells #[v, .int .i64 n, .int .i64 m] 32)).alloc (.cells #[x, y, z, u] 35)) (.cells #[.slice none 0 0, .int .i64 0, .int .i64 0] 32); rw [World.size_alloc, World.size_alloc] at this; exact this) (by omega) (by rw [World.size_alloc, World.size_alloc]; omega)
  · have h := boxS_new ((w.alloc (.cells #[v, .int .i64 n, .int .i64 m] 32)).alloc (.cells #[x, y, z, u] 35)) (.slice none 0 0) 0 0 32
    rw [World.size_alloc, World.size_alloc] at h
    exact h
  · exact ((b1 w _).alloc (by simp) _).alloc (by simp; omega) _
set_option maxHeartbeats 2000000 in
theorem make6_bad {N : Nat → Prop} (v : Value) (n m : Nat) (L : List RE) (v0 : Value) (o : Ob) (w : World) (h : SpV N w v L) (ho : ObjAt w v0 o) (hf : Wd.Far o) (hok : okO o = false) :
    Calls Tryz.prog 8 #[.agg #[v, .int .i64 n, .int .i64 m], v0] w (MkNo v n m 2 w) := by
  obtain ⟨a, c, rfl⟩ := h.form
  have HO := Lib.hid ho
  obtain ⟨wv, bv, rfl, _⟩ := ho
  obtain ⟨x1, x2, x3, x4, x5⟩ := mk_entry w (.slice a L.length c) (.int .i64 o.c) (.int .i64 o.k) wv bv n m
  have HE := Lib.hid (Wd.refencode_no _ o _ (HO.out.kept x4) hf hok)
  have X1 := Lib.hid x1
  have X2 := Lib.hid x2
  have X3 := Lib.hid x3
  have X4 := Lib.hid x4
  obtain ⟨p, hp⟩ : ∃ p, w.heap.size = p := ⟨_, rfl⟩
  have HP := Lib.hid hp
  rw [hp] at X1 X2 X3
  obtain ⟨⟨y0, y1, y2, y3⟩, _, _⟩ := X2.out
  clear x1 x2 x3 x4 x5 h
  go_enter Tryz.func8, Tryz.ntmps8
  go_wp2_with fail
  refine HE.out.mono ?_
  rintro e w1 ⟨rfl, b1⟩
  have B1 := Lib.hid (X4.out.trans (b1.mono X4.out.size))
  have Z1 := Lib.hid (X1.out.fresh b1)
  have Z3 := Lib.hid (X3.out.fresh b1)
  obtain ⟨u0, u1, u2, _, _⟩ := Z1.out
  obtain ⟨t0, t1, t2, tf, _⟩ := Z3.out
  have f0 := tf 0
  have f1 := tf 1
  have f2 := tf 2
  clear b1 tf y0 y1 y2 y3 hp
  go_wp2_with fail
  (try simp only [Exit.inBlock, Exit.then])
  have hb9 := Z3.out.put (.slice a L.length c) n m
  have O9 : Only (· = p + 2) w1 (((w1.setCell ⟨p + 2, 0, none⟩ (.slice a L.length c)).setCell ⟨p + 2, 1, none⟩ (.int .i64 n)).setCell ⟨p + 2, 2, none⟩ (.int .i64 m)) := putS_only (Only.refl _ _) (.inl rfl)
  have hpp := HP.out
  refine bodyPost_ret (res_S3 rfl rfl hb9) rfl ⟨rfl, B1.out.trans (O9.below (fun i hi e => by omega) B1.out.size)⟩
end Go.Proofs.YtccpmaahnfgkeaaGreatDoor
