/- What the function New of package names does. No condition but those that each statement names. -/
import Derived.Test.YthooeehobhegbaaNSl
namespace Go.Proofs.Ythooeehobhegbaa
set_option maxRecDepth 1000000
open Go.ChangeShapes Go.WideShapes Go.ChangeAt Go.RowKit

/-- A new table. -/
def NewPost (n : Nat) (w : World) (e : Ending) (w' : World) : Prop :=
  ∃ c : Tb, e = .returned (.tuple #[.pointer (some ⟨c.t, 0, none⟩), .int .i64 0]) ∧ (∀ k, TF c k → w.heap.size ≤ k) ∧ TabAt w' c n (fun _ => 0) ∧ Below w.heap.size w w'
theorem new_no (n : Int) (w : World) (h : n < 0 ∨ 16383 < n) : Calls Try.prog 9 #[.int .i64 n] w (Told (.tuple #[.pointer none, .int .i64 2]) w) := by
  rcases h with h | h
  · go_enter Try.func9, Try.ntmps9
    go_wp2
    go_ret2
    exact ⟨rfl, rfl⟩
  · have h' : ¬ n < 0 := by omega
    go_enter Try.func9, Try.ntmps9
    go_wp2
    go_ret2
    exact ⟨rfl, rfl⟩
theorem good_new (n : Nat) : GoodT n (fun _ => 0) (fun _ => 0) 0 1 := by
  refine ⟨⟨fun i _ => ⟨Int.le_refl _, by omega⟩, fun i j _ _ h => absurd rfl h⟩, ⟨fun _ _ => Nat.zero_le _, fun _ _ h => absurd rfl h, fun _ _ _ _ h => absurd rfl h, fun _ _ h => absurd rfl h, fun _ _ _ _ h => absurd rfl h⟩, (cntI_zero fun _ _ => rfl).symm, Nat.le_refl _, by omega, fun j hj => by omega⟩
/-- A new row of noughts. -/
def zrow (w : World) (n : Nat) : World := w.alloc (.cells (madeCells #[Value.int .i64 0] n) 3)
theorem zrow_size (w : World) (n : Nat) : (zrow w n).heap.size = w.heap.size + 1 := by simp [zrow]
theorem zrow_below (w : World) (n : Nat) : Below w.heap.size w (zrow w n) := (Below.refl _ _).alloc (Nat.le_refl _) _
theorem zrow_row (w : World) (n : Nat) : RowV (zrow w n) w.heap.size n (fun _ => 0) := made_row w n
theorem new_tab (w : World) (n x y : Nat) (c : Tb) (hn : n ≤ 16383) (hc : (x = n ∧ y = 2 * n ∧ c = ⟨w.heap.size, w.heap.size + 1, w.heap.size + 1 + 1⟩) ∨ (x = 2 * n ∧ y = n ∧ c = ⟨w.heap.size + 1, w.heap.size, w.heap.size + 1 + 1⟩)) :
    (∀ k, TF c k → w.heap.size ≤ k) ∧ TabAt ((zrow (zrow w x) y).alloc (.cells #[.slice (some ⟨c.a, 0, none⟩) n n, .slice (some ⟨c.e, 0, none⟩) (2 * n) (2 * n), .int .i64 0, .int .i64 1] 53)).drew c n (fun _ => 0) ∧
      Below w.heap.size w ((zrow (zrow w x) y).alloc (.cells #[.slice (some ⟨c.a, 0, none⟩) n n, .slice (some ⟨c.e, 0, none⟩) (2 * n) (2 * n), .int .i64 0, .int .i64 1] 53)).drew := by
  have s1 := zrow_size w x
  have s2 := zrow_size (zrow w x) y
  have r1 : RowV (zrow (zrow w x) y) w.heap.size x (fun _ => 0) := (zrow_row w x).only (F := fun _ => False) (Only.of_below (zrow_below _ y)) id
  have r2 := zrow_row (zrow w x) y
  rw [s1] at r2
  have b2 : Below w.heap.size w (zrow (zrow w x) y) := (zrow_below w x).trans ((zrow_below _ y).mono (by omega))
  obtain ⟨w2, hw2⟩ : ∃ w2, zrow (zrow w x) y = w2 := ⟨_, rfl⟩
  rw [hw2] at s2 r1 r2 b2 ⊢
  have hs : w2.heap.size = w.heap.size + 1 + 1 := by omega
  have htop : c.t = w2.heap.size := by rcases hc with ⟨_, _, rfl⟩ | ⟨_, _, rfl⟩ <;> exact hs.symm
  refine ⟨?_, ⟨fun _ => 0, 0, 1, ?_, good_new n⟩, below_drewN (b2.alloc b2.size _) 1⟩
  · rcases hc with ⟨_, _, rfl⟩ | ⟨_, _, rfl⟩ <;> rintro k (rfl | rfl | rfl) <;> (dsimp only; omega)
  · have hb3 := (Below.refl w2.heap.size w2).alloc (Nat.le_refl _) (.cells #[.slice (some ⟨c.a, 0, none⟩) n n, .slice (some ⟨c.e, 0, none⟩) (2 * n) (2 * n), .int .i64 0, .int .i64 1] 53)
    have cell : ∀ i, (w2.alloc (.cells #[.slice (some ⟨c.a, 0, none⟩) n n, .slice (some ⟨c.e, 0, none⟩) (2 * n) (2 * n), .int .i64 0, .int .i64 1] 53)).cell? ⟨c.t, i, none⟩ = #[Value.slice (some ⟨c.a, 0, none⟩) n n, .slice (some ⟨c.e, 0, none⟩) (2 * n) (2 * n), .int .i64 0, .int .i64 1][i]? := fun i => by
      rw [htop, World.cell?_alloc_at _ _ _ _ rfl]
    have fz := frozen_top w2 #[.slice (some ⟨c.a, 0, none⟩) n n, .slice (some ⟨c.e, 0, none⟩) (2 * n) (2 * n), .int .i64 0, .int .i64 1] 53
    rw [← htop] at fz
    have q1 := r1.only (F := fun _ => False) (Only.of_below hb3) id
    have q2 := r2.only (F := fun _ => False) (Only.of_below hb3) id
    have hsz : (w2.alloc (.cells #[.slice (some ⟨c.a, 0, none⟩) n n, .slice (some ⟨c.e, 0, none⟩) (2 * n) (2 * n), .int .i64 0, .int .i64 1] 53)).heap.size = w2.heap.size + 1 := by simp
    refine TabM.drewN ?_ 1
    rcases hc with ⟨rfl, rfl, rfl⟩ | ⟨rfl, rfl, rfl⟩
    · exact ⟨cell 0, cell 1, cell 2, cell 3, fz, q1, q2, ⟨by simp, by show ¬ w.heap.size = _; omega, by simp⟩, ⟨by show w.heap.size < _; omega, by show w.heap.size + 1 < _; omega, by show w.heap.size + 1 + 1 < _; omega⟩, hn⟩
    · exact ⟨cell 0, cell 1, cell 2, cell 3, fz, q2, q1, ⟨by simp, by simp, by show ¬ w.heap.size = _; omega⟩, ⟨by show w.heap.size + 1 < _; omega, by show w.heap.size < _; omega, by show w.heap.size + 1 + 1 < _; omega⟩, hn⟩
set_option maxHeartbeats 4000000 in
theorem new_yes (n : Nat) (w : World) (hn : n ≤ 16383) : Calls Try.prog 9 #[.int .i64 n] w (NewPost n w) := by
  have h1 : ¬ ((n : Int) < 0) := by omega
  have h2 : ¬ ((16383 : Int) < n) := by omega
  have hm : ∀ w, (Instr.makeSlice 23 (.int .i64 (n : Int)) (.int .i64 (n : Int))).run Try.prog w = .ok (.slice (some ⟨w.heap.size, 0, none⟩) n n) (w.alloc (.cells (madeCells (Value.int .i64 0).cells n) 3)) := fun w => mk_words w n n (Nat.le_refl _) (by omega)
  have hm2 : ∀ w, (Instr.makeSlice 23 (.int .i64 (2 * (n : Int))) (.int .i64 (2 * (n : Int)))).run Try.prog w = .ok (.slice (some ⟨w.heap.size, 0, none⟩) (2 * n) (2 * n)) (w.alloc (.cells (madeCells (Value.int .i64 0).cells (2 * n)) 3)) := fun w => mk_words w (2 * n) (2 * n) (Nat.le_refl _) (by omega)
  have HT := Lib.hid (fun x y c hc => new_tab w n x y c hn hc)
  go_enter Try.func9, Try.ntmps9
  go_wp2_with fail
  go_region
  · go_wp2
    go_ret2
    exact ⟨⟨w.heap.size, w.heap.size + 1, w.heap.size + 1 + 1⟩, rfl, HT.out n (2 * n) _ (.inl ⟨rfl, rfl, rfl⟩)⟩
  · go_wp2
    go_ret2
    exact ⟨⟨w.heap.size + 1, w.heap.size, w.heap.size + 1 + 1⟩, rfl, HT.out (2 * n) n _ (.inr ⟨rfl, rfl, rfl⟩)⟩
end Go.Proofs.Ythooeehobhegbaa
