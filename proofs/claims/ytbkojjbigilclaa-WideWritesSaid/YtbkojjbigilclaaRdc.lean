/- What the chapter's Decode returns of any bytes: the object, or the error. -/
import Derived.Test.YtbkojjbigilclaaWrd
import Derived.IntWalk
namespace Go.Proofs.Ytbkojjbigilclaa
open Go.ChangeShapes Go.WideShapes Go.ChangeAt Go.RowKit
set_option maxRecDepth 1000000

theorem own_set {w : World} {base n q j : Nat} {e : TypeId} {v u : Value} {xs : List Value} (h : w.ownsRow base e 1 v n xs) (hq : q < base) : (w.setCell ⟨q, j, none⟩ u).ownsRow base e 1 v n xs := by
  refine ⟨h.1, ?_⟩
  rcases h.2 with hn | ⟨g, cap, cur, rfl, hb, hgg, rest⟩
  · exact .inl hn
  · refine .inr ⟨g, cap, cur, rfl, hb, ?_, rest⟩
    rw [Abv.set q w q j u (Nat.le_refl _) g (by omega) (Array.getElem?_eq_some_iff.1 hgg).1]
    exact hgg
/-- Two structs, in the two first new blocks. -/
theorem two_boxes (w : World) (x y z u x' y' z' u' : Value) : Box w.heap.size x y z u ((w.alloc (.cells #[x, y, z, u] 25)).alloc (.cells #[x', y', z', u'] 25)) ∧ Box (w.heap.size + 1) x' y' z' u' ((w.alloc (.cells #[x, y, z, u] 25)).alloc (.cells #[x', y', z', u'] 25)) := by
  refine ⟨(box_new w x y z u).kept (B := w.heap.size + 1) ((Below.refl _ _).alloc (by simp) _) (by omega) (by simp), ?_⟩
  have h := box_new (w.alloc (.cells #[x, y, z, u] 25)) x' y' z' u'
  rw [show (w.alloc (.cells #[x, y, z, u] 25)).heap.size = w.heap.size + 1 by simp] at h
  exact h

set_option maxHeartbeats 400000 in
theorem refdec_e (v : Value) (w : World) (c k n : Int) (e f g : Int) (HG0 : Hid (∀ w', Below w.heap.size w w' → Calls Try.prog 36 #[v, .int .i64 0] w' fun en w'' => en = .returned (.tuple #[.int .i64 c, .int .i64 e]) ∧ w' = w'')) (HG4 : Hid (∀ w', Below w.heap.size w w' → Calls Try.prog 36 #[v, .int .i64 4] w' fun en w'' => en = .returned (.tuple #[.int .i64 k, .int .i64 f]) ∧ w' = w'')) (HG8 : Hid (∀ w', Below w.heap.size w w' → Calls Try.prog 36 #[v, .int .i64 8] w' fun en w'' => en = .returned (.tuple #[.int .i64 n, .int .i64 g]) ∧ w' = w'')) (he : (e != 0) = true) :
    Calls Try.prog 16 #[v] w (DecNo w) := by
  have X := Lib.hid (two_boxes w (.int .i64 0) (.int .i64 0) (.slice none 0 0) (.slice none 0 0) (.int .i64 c) (.int .i64 k) (.slice none 0 0) (.slice none 0 0))
  have BA : Hid (Below w.heap.size w (w.alloc (.cells #[.int .i64 0, .int .i64 0, .slice none 0 0, .slice none 0 0] 25))) := (Below.refl _ _).alloc (Nat.le_refl _) _
  have BB : Hid (Below w.heap.size w ((w.alloc (.cells #[.int .i64 0, .int .i64 0, .slice none 0 0, .slice none 0 0] 25)).alloc (.cells #[.int .i64 c, .int .i64 k, .slice none 0 0, .slice none 0 0] 25))) := BA.out.alloc BA.out.size _
  go_enter Try.func16, Try.ntmps16
  go_wp2_with fail
  refine (HG0.out _ BA.out).mono ?_
  rintro e w1 ⟨rfl, rfl⟩
  go_wp2_with fail
  refine (HG4.out _ BA.out).mono ?_
  rintro e w1 ⟨rfl, rfl⟩
  go_wp2_with fail
  refine (HG8.out _ BA.out).mono ?_
  rintro e w1 ⟨rfl, rfl⟩
  go_wp2
  exact bodyPost_ret (res_box2 rfl rfl X.out.1) rfl ⟨rfl, BB.out⟩

set_option maxHeartbeats 400000 in
theorem refdec_f (v : Value) (w : World) (c k n : Int) (f g : Int) (HG0 : Hid (∀ w', Below w.heap.size w w' → Calls Try.prog 36 #[v, .int .i64 0] w' fun en w'' => en = .returned (.tuple #[.int .i64 c, .int .i64 0]) ∧ w' = w'')) (HG4 : Hid (∀ w', Below w.heap.size w w' → Calls Try.prog 36 #[v, .int .i64 4] w' fun en w'' => en = .returned (.tuple #[.int .i64 k, .int .i64 f]) ∧ w' = w'')) (HG8 : Hid (∀ w', Below w.heap.size w w' → Calls Try.prog 36 #[v, .int .i64 8] w' fun en w'' => en = .returned (.tuple #[.int .i64 n, .int .i64 g]) ∧ w' = w'')) (he : (f != 0) = true) :
    Calls Try.prog 16 #[v] w (DecNo w) := by
  have X := Lib.hid (two_boxes w (.int .i64 0) (.int .i64 0) (.slice none 0 0) (.slice none 0 0) (.int .i64 c) (.int .i64 k) (.slice none 0 0) (.slice none 0 0))
  have BA : Hid (Below w.heap.size w (w.alloc (.cells #[.int .i64 0, .int .i64 0, .slice none 0 0, .slice none 0 0] 25))) := (Below.refl _ _).alloc (Nat.le_refl _) _
  have BB : Hid (Below w.heap.size w ((w.alloc (.cells #[.int .i64 0, .int .i64 0, .slice none 0 0, .slice none 0 0] 25)).alloc (.cells #[.int .i64 c, .int .i64 k, .slice none 0 0, .slice none 0 0] 25))) := BA.out.alloc BA.out.size _
  go_enter Try.func16, Try.ntmps16
  go_wp2_with fail
  refine (HG0.out _ BA.out).mono ?_
  rintro e w1 ⟨rfl, rfl⟩
  go_wp2_with fail
  refine (HG4.out _ BA.out).mono ?_
  rintro e w1 ⟨rfl, rfl⟩
  go_wp2_with fail
  refine (HG8.out _ BA.out).mono ?_
  rintro e w1 ⟨rfl, rfl⟩
  go_wp2
  exact bodyPost_ret (res_box2 rfl rfl X.out.1) rfl ⟨rfl, BB.out⟩

set_option maxHeartbeats 400000 in
theorem refdec_g (v : Value) (w : World) (c k n : Int) (g : Int) (HG0 : Hid (∀ w', Below w.heap.size w w' → Calls Try.prog 36 #[v, .int .i64 0] w' fun en w'' => en = .returned (.tuple #[.int .i64 c, .int .i64 0]) ∧ w' = w'')) (HG4 : Hid (∀ w', Below w.heap.size w w' → Calls Try.prog 36 #[v, .int .i64 4] w' fun en w'' => en = .returned (.tuple #[.int .i64 k, .int .i64 0]) ∧ w' = w'')) (HG8 : Hid (∀ w', Below w.heap.size w w' → Calls Try.prog 36 #[v, .int .i64 8] w' fun en w'' => en = .returned (.tuple #[.int .i64 n, .int .i64 g]) ∧ w' = w'')) (he : (g != 0) = true) :
    Calls Try.prog 16 #[v] w (DecNo w) := by
  have X := Lib.hid (two_boxes w (.int .i64 0) (.int .i64 0) (.slice none 0 0) (.slice none 0 0) (.int .i64 c) (.int .i64 k) (.slice none 0 0) (.slice none 0 0))
  have BA : Hid (Below w.heap.size w (w.alloc (.cells #[.int .i64 0, .int .i64 0, .slice none 0 0, .slice none 0 0] 25))) := (Below.refl _ _).alloc (Nat.le_refl _) _
  have BB : Hid (Below w.heap.size w ((w.alloc (.cells #[.int .i64 0, .int .i64 0, .slice none 0 0, .slice none 0 0] 25)).alloc (.cells #[.int .i64 c, .int .i64 k, .slice none 0 0, .slice none 0 0] 25))) := BA.out.alloc BA.out.size _
  go_enter Try.func16, Try.ntmps16
  go_wp2_with fail
  refine (HG0.out _ BA.out).mono ?_
  rintro e w1 ⟨rfl, rfl⟩
  go_wp2_with fail
  refine (HG4.out _ BA.out).mono ?_
  rintro e w1 ⟨rfl, rfl⟩
  go_wp2_with fail
  refine (HG8.out _ BA.out).mono ?_
  rintro e w1 ⟨rfl, rfl⟩
  go_wp2
  exact bodyPost_ret (res_box2 rfl rfl X.out.1) rfl ⟨rfl, BB.out⟩

set_option maxHeartbeats 400000 in
theorem refdec_neg (v : Value) (w : World) (c k n : Int) (HG0 : Hid (∀ w', Below w.heap.size w w' → Calls Try.prog 36 #[v, .int .i64 0] w' fun en w'' => en = .returned (.tuple #[.int .i64 c, .int .i64 0]) ∧ w' = w'')) (HG4 : Hid (∀ w', Below w.heap.size w w' → Calls Try.prog 36 #[v, .int .i64 4] w' fun en w'' => en = .returned (.tuple #[.int .i64 k, .int .i64 0]) ∧ w' = w'')) (HG8 : Hid (∀ w', Below w.heap.size w w' → Calls Try.prog 36 #[v, .int .i64 8] w' fun en w'' => en = .returned (.tuple #[.int .i64 n, .int .i64 0]) ∧ w' = w'')) (he : n < 0) :
    Calls Try.prog 16 #[v] w (DecNo w) := by
  have X := Lib.hid (two_boxes w (.int .i64 0) (.int .i64 0) (.slice none 0 0) (.slice none 0 0) (.int .i64 c) (.int .i64 k) (.slice none 0 0) (.slice none 0 0))
  have BA : Hid (Below w.heap.size w (w.alloc (.cells #[.int .i64 0, .int .i64 0, .slice none 0 0, .slice none 0 0] 25))) := (Below.refl _ _).alloc (Nat.le_refl _) _
  have BB : Hid (Below w.heap.size w ((w.alloc (.cells #[.int .i64 0, .int .i64 0, .slice none 0 0, .slice none 0 0] 25)).alloc (.cells #[.int .i64 c, .int .i64 k, .slice none 0 0, .slice none 0 0] 25))) := BA.out.alloc BA.out.size _
  go_enter Try.func16, Try.ntmps16
  go_wp2_with fail
  refine (HG0.out _ BA.out).mono ?_
  rintro e w1 ⟨rfl, rfl⟩
  go_wp2_with fail
  refine (HG4.out _ BA.out).mono ?_
  rintro e w1 ⟨rfl, rfl⟩
  go_wp2_with fail
  refine (HG8.out _ BA.out).mono ?_
  rintro e w1 ⟨rfl, rfl⟩
  go_wp2
  exact bodyPost_ret (res_box2 rfl rfl X.out.1) rfl ⟨rfl, BB.out⟩

set_option maxHeartbeats 400000 in
theorem refdec_big (v : Value) (w : World) (c k n : Int) (HG0 : Hid (∀ w', Below w.heap.size w w' → Calls Try.prog 36 #[v, .int .i64 0] w' fun en w'' => en = .returned (.tuple #[.int .i64 c, .int .i64 0]) ∧ w' = w'')) (HG4 : Hid (∀ w', Below w.heap.size w w' → Calls Try.prog 36 #[v, .int .i64 4] w' fun en w'' => en = .returned (.tuple #[.int .i64 k, .int .i64 0]) ∧ w' = w'')) (HG8 : Hid (∀ w', Below w.heap.size w w' → Calls Try.prog 36 #[v, .int .i64 8] w' fun en w'' => en = .returned (.tuple #[.int .i64 n, .int .i64 0]) ∧ w' = w'')) (he0 : ¬ n < 0) (he : 1000 < n) :
    Calls Try.prog 16 #[v] w (DecNo w) := by
  have X := Lib.hid (two_boxes w (.int .i64 0) (.int .i64 0) (.slice none 0 0) (.slice none 0 0) (.int .i64 c) (.int .i64 k) (.slice none 0 0) (.slice none 0 0))
  have BA : Hid (Below w.heap.size w (w.alloc (.cells #[.int .i64 0, .int .i64 0, .slice none 0 0, .slice none 0 0] 25))) := (Below.refl _ _).alloc (Nat.le_refl _) _
  have BB : Hid (Below w.heap.size w ((w.alloc (.cells #[.int .i64 0, .int .i64 0, .slice none 0 0, .slice none 0 0] 25)).alloc (.cells #[.int .i64 c, .int .i64 k, .slice none 0 0, .slice none 0 0] 25))) := BA.out.alloc BA.out.size _
  go_enter Try.func16, Try.ntmps16
  go_wp2_with fail
  refine (HG0.out _ BA.out).mono ?_
  rintro e w1 ⟨rfl, rfl⟩
  go_wp2_with fail
  refine (HG4.out _ BA.out).mono ?_
  rintro e w1 ⟨rfl, rfl⟩
  go_wp2_with fail
  refine (HG8.out _ BA.out).mono ?_
  rintro e w1 ⟨rfl, rfl⟩
  go_wp2
  exact bodyPost_ret (res_box2 rfl rfl X.out.1) rfl ⟨rfl, BB.out⟩

set_option maxHeartbeats 400000 in
theorem refdec_len1 (a : Option Addr) (len cap : Nat) (w : World) (c n : Int) (HG0 : Hid (∀ w', Below w.heap.size w w' → Calls Try.prog 36 #[.slice a len cap, .int .i64 0] w' fun en w'' => en = .returned (.tuple #[.int .i64 c, .int .i64 0]) ∧ w' = w'')) (HG4 : Hid (∀ w', Below w.heap.size w w' → Calls Try.prog 36 #[.slice a len cap, .int .i64 4] w' fun en w'' => en = .returned (.tuple #[.int .i64 1, .int .i64 0]) ∧ w' = w'')) (HG8 : Hid (∀ w', Below w.heap.size w w' → Calls Try.prog 36 #[.slice a len cap, .int .i64 8] w' fun en w'' => en = .returned (.tuple #[.int .i64 n, .int .i64 0]) ∧ w' = w'')) (h0 : 0 ≤ n) (h1 : n ≤ 1000) (hl : ((len : Int) != 12 + 4 * n) = true) :
    Calls Try.prog 16 #[.slice a len cap] w (DecNo w) := by
  have X := Lib.hid (two_boxes w (.int .i64 0) (.int .i64 0) (.slice none 0 0) (.slice none 0 0) (.int .i64 c) (.int .i64 1) (.slice none 0 0) (.slice none 0 0))
  have BA : Hid (Below w.heap.size w (w.alloc (.cells #[.int .i64 0, .int .i64 0, .slice none 0 0, .slice none 0 0] 25))) := (Below.refl _ _).alloc (Nat.le_refl _) _
  have BB : Hid (Below w.heap.size w ((w.alloc (.cells #[.int .i64 0, .int .i64 0, .slice none 0 0, .slice none 0 0] 25)).alloc (.cells #[.int .i64 c, .int .i64 1, .slice none 0 0, .slice none 0 0] 25))) := BA.out.alloc BA.out.size _
  go_enter Try.func16, Try.ntmps16
  go_wp2_with fail
  refine (HG0.out _ BA.out).mono ?_
  rintro e w1 ⟨rfl, rfl⟩
  go_wp2_with fail
  refine (HG4.out _ BA.out).mono ?_
  rintro e w1 ⟨rfl, rfl⟩
  go_wp2_with fail
  refine (HG8.out _ BA.out).mono ?_
  rintro e w1 ⟨rfl, rfl⟩
  go_wp2
  exact bodyPost_ret (res_box2 rfl rfl X.out.1) rfl ⟨rfl, BB.out⟩

set_option maxHeartbeats 400000 in
theorem refdec_len2 (a : Option Addr) (len cap : Nat) (w : World) (c k n : Int) (HG0 : Hid (∀ w', Below w.heap.size w w' → Calls Try.prog 36 #[.slice a len cap, .int .i64 0] w' fun en w'' => en = .returned (.tuple #[.int .i64 c, .int .i64 0]) ∧ w' = w'')) (HG4 : Hid (∀ w', Below w.heap.size w w' → Calls Try.prog 36 #[.slice a len cap, .int .i64 4] w' fun en w'' => en = .returned (.tuple #[.int .i64 k, .int .i64 0]) ∧ w' = w'')) (HG8 : Hid (∀ w', Below w.heap.size w w' → Calls Try.prog 36 #[.slice a len cap, .int .i64 8] w' fun en w'' => en = .returned (.tuple #[.int .i64 n, .int .i64 0]) ∧ w' = w'')) (h0 : 0 ≤ n) (h1 : n ≤ 1000) (hk : (k == 1) = false) (hl : ((len : Int) != 12 + n) = true) :
    Calls Try.prog 16 #[.slice a len cap] w (DecNo w) := by
  have X := Lib.hid (two_boxes w (.int .i64 0) (.int .i64 0) (.slice none 0 0) (.slice none 0 0) (.int .i64 c) (.int .i64 k) (.slice none 0 0) (.slice none 0 0))
  have BA : Hid (Below w.heap.size w (w.alloc (.cells #[.int .i64 0, .int .i64 0, .slice none 0 0, .slice none 0 0] 25))) := (Below.refl _ _).alloc (Nat.le_refl _) _
  have BB : Hid (Below w.heap.size w ((w.alloc (.cells #[.int .i64 0, .int .i64 0, .slice none 0 0, .slice none 0 0] 25)).alloc (.cells #[.int .i64 c, .int .i64 k, .slice none 0 0, .slice none 0 0] 25))) := BA.out.alloc BA.out.size _
  go_enter Try.func16, Try.ntmps16
  go_wp2_with fail
  refine (HG0.out _ BA.out).mono ?_
  rintro e w1 ⟨rfl, rfl⟩
  go_wp2_with fail
  refine (HG4.out _ BA.out).mono ?_
  rintro e w1 ⟨rfl, rfl⟩
  go_wp2_with fail
  refine (HG8.out _ BA.out).mono ?_
  rintro e w1 ⟨rfl, rfl⟩
  go_wp2
  exact bodyPost_ret (res_box2 rfl rfl X.out.1) rfl ⟨rfl, BB.out⟩

end Go.Proofs.Ytbkojjbigilclaa
