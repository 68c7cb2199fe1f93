/- 'known', the chapter's example: it returns true. No condition. -/
import Derived.Test.YtmaeoefimkppoaaVSam
namespace Go.Proofs.Ytmaeoefimkppoaa.Wd
open Go.ChangeShapes Go.WideShapes Go.ChangeAt Go.RowKit
set_option maxRecDepth 1000000

def ex : Ob := ⟨6, 1, [3, 8], []⟩
theorem ex_ok : okO ex = true := by decide
theorem ex_enc : encO ex = [0, 0, 0, 6, 0, 0, 0, 1, 0, 0, 0, 2, 0, 0, 0, 3, 0, 0, 0, 8] := by decide
theorem ex_dec : decB [0, 0, 0, 6, 0, 0, 0, 1, 0, 0, 0, 2, 0, 0, 0, 3, 0, 0, 0, 8] = true ∧ rdO [0, 0, 0, 6, 0, 0, 0, 1, 0, 0, 0, 2, 0, 0, 0, 3, 0, 0, 0, 8] = ex := by rw [← ex_enc]; exact dec_enc ex_ok
theorem obj_zero (w : World) : ObjAt w (.agg #[.int .i64 0, .int .i64 0, .slice none 0 0, .slice none 0 0]) ⟨0, 0, [], []⟩ := ⟨_, _, rfl, rowI_nil w, rowB_nil w, by simp [In64], by simp [In64]⟩
theorem ints2 (w : World) (x y : Int) : Ints (w.alloc (.cells #[.int .i64 x, .int .i64 y] 3)) (.slice (some ⟨w.heap.size, 0, none⟩) 2 2) [x, y] := by
  refine ⟨_, _, rfl, .inr ⟨_, _, rfl, fun i hi => ?_⟩⟩
  rw [World.cell?_alloc_at _ _ _ _ rfl]
  match i, hi with
  | 0, _ => rfl
  | 1, _ => rfl
theorem ex_at (w : World) : ObjAt (w.alloc (.cells #[.int .i64 3, .int .i64 8] 3)) (.agg #[.int .i64 6, .int .i64 1, .slice (some ⟨w.heap.size, 0, none⟩) 2 2, .slice none 0 0]) ex :=
  ⟨_, _, rfl, ⟨ints2 w 3 8, by intro n hn; simp [ex] at hn; omega, _, _, rfl, by simp [ex]⟩, rowB_nil _, by simp [In64, ex], by simp [In64, ex]⟩
def exB : List Int := [0, 0, 0, 6, 0, 0, 0, 1, 0, 0, 0, 2, 0, 0, 0, 3, 0, 0, 0, 8]
theorem exB_byL : ByL exB := by intro n hn; simp [exB] at hn; omega

theorem bts_lit (w : World) (xs : List Int) : Bts (w.alloc (.cells (xs.map (Value.int .u8)).toArray 5)) (.slice (some ⟨w.heap.size, 0, none⟩) xs.length xs.length) xs := by
  refine ⟨_, _, rfl, .inr ⟨_, _, rfl, fun i hi => ?_⟩⟩
  rw [World.cell?_alloc_at _ _ _ _ rfl]
  simp [List.getElem?_eq_getElem hi, List.getD]
theorem exB_at (w : World) : Bts (w.alloc (.cells #[.int .u8 0, .int .u8 0, .int .u8 0, .int .u8 6, .int .u8 0, .int .u8 0, .int .u8 0, .int .u8 1, .int .u8 0, .int .u8 0, .int .u8 0, .int .u8 2, .int .u8 0, .int .u8 0, .int .u8 0, .int .u8 3, .int .u8 0, .int .u8 0, .int .u8 0, .int .u8 8] 5)) (.slice (some ⟨w.heap.size, 0, none⟩) 20 20) exB := bts_lit w exB
theorem Box.next {p : Nat} {x y z u : Value} {w w' : World} (h : Box p x y z u w) (hb : Below w.heap.size w w') : Box p x y z u w' := h.kept hb h.2.2 (Nat.le_refl _)
theorem box_new2 (w : World) (o : Obj) (x y z u : Value) : Box (w.heap.size + 1) x y z u ((w.alloc o).alloc (.cells #[x, y, z, u] 33)) := by
  have h := box_new (w.alloc o) x y z u
  rw [show (w.alloc o).heap.size = w.heap.size + 1 by simp] at h
  exact h
theorem two_below (w : World) (x y : Obj) : Below (w.heap.size + 1) (w.alloc x) ((w.alloc x).alloc y) := (Below.refl _ _).alloc (by simp) _

end Go.Proofs.Ytmaeoefimkppoaa.Wd
