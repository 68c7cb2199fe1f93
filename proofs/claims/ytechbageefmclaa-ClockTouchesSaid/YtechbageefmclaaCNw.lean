/- What the function New of package clock does; a clock of a law's own. No condition but those that each statement names. -/
import Derived.Test.YtechbageefmclaaCVi
namespace Go.Proofs.Ytechbageefmclaa
set_option maxRecDepth 1000000
open Go.ChangeShapes Go.WideShapes Go.ChangeAt Go.RowKit

theorem Try.info57 : (Try.prog.info? 57).map (fun i => (i.zero, i.size, i.bytes)) = some (some (.agg #[.bool false, .bool false, .bool false]), 3, 3) := by kernel_rfl
/-- The world with n elements made. -/
def ew (w : World) (n : Nat) : World := w.alloc (.cells (madeCells #[.bool false, .bool false, .bool false] (n * 3)) 57)
theorem mk_els (w : World) (n : Nat) (hn : n ≤ 16384) : (Instr.makeSlice 49 (.int .i64 (n : Int)) (.int .i64 (n : Int))).run Try.prog w = .ok (.slice (some ⟨w.heap.size, 0, none⟩) n n) (ew w n) := by
  obtain ⟨i0, hi, hz0, hz1, hz2⟩ := info_parts Try.info57
  have h := run_make (P := Try.prog) w 49 57 i0 _ Try.underlying49 hi hz0 .i64 .i64 (n : Int) (n : Int) (by omega) (by omega) (by rw [hz2]; omega) (by omega)
  rw [hz1, show ((n : Int)).toNat = n by omega] at h
  exact h
theorem frozen_top (w : World) (cs : Array Value) (t : TypeId) (j : Nat) : (w.alloc (.cells cs t)).frozen? ⟨w.heap.size, j, none⟩ = false := by
  have h : (w.alloc (.cells cs t)).heap[w.heap.size]? = some (.cells cs t) := heap_alloc_new w _
  unfold World.frozen?
  simp only [h]
  simp
theorem made_cell (n j : Nat) (hj : j < n * 3) : (madeCells #[Value.bool false, .bool false, .bool false] (n * 3))[j]? = some (.bool false) := by
  have hs : j < (madeCells #[Value.bool false, .bool false, .bool false] (n * 3)).size := by rw [size_madeCells]; exact hj
  rw [Array.getElem?_eq_getElem hs]
  have : j % 3 < 3 := Nat.mod_lt _ (by omega)
  simp only [madeCells]
  match h : j % 3, this with
  | 0, _ => simp [h]
  | 1, _ => simp [h]
  | 2, _ => simp [h]
/-- No element is present. -/
def E0 : Nat → El := fun _ => ⟨false, false, false⟩
theorem made_els (w : World) (n : Nat) : ElV (ew w n) w.heap.size n E0 := fun j hj => by
  refine ⟨?_, ?_, ?_⟩ <;> (unfold ew; rw [World.cell?_alloc_at _ _ _ _ rfl]; exact made_cell n _ (by omega))
theorem new_clk (w : World) (n : Nat) (hn : n ≤ 16384) :
    ClkAt ((ew w n).alloc (.cells #[.slice (some ⟨w.heap.size, 0, none⟩) n n, .int .i64 0] 51)) ⟨w.heap.size, w.heap.size + 1⟩ n E0 0 ∧
      Below w.heap.size w ((ew w n).alloc (.cells #[.slice (some ⟨w.heap.size, 0, none⟩) n n, .int .i64 0] 51)) := by
  have s1 : (ew w n).heap.size = w.heap.size + 1 := by simp [ew]
  have b1 : Below w.heap.size w (ew w n) := (Below.refl _ _).alloc (Nat.le_refl _) _
  have hel := made_els w n
  have hfe : ∀ j, (ew w n).frozen? ⟨w.heap.size, j, none⟩ = false := fun j => frozen_top w _ _ j
  generalize ew w n = w1 at *
  have b2 := (Below.refl w1.heap.size w1).alloc (Nat.le_refl _) (.cells #[.slice (some ⟨w.heap.size, 0, none⟩) n n, .int .i64 0] 51)
  have o2 : Only (fun _ => False) w1 _ := Only.of_below b2
  have cell : ∀ i, (w1.alloc (.cells #[.slice (some ⟨w.heap.size, 0, none⟩) n n, .int .i64 0] 51)).cell? ⟨w.heap.size + 1, i, none⟩ = #[Value.slice (some ⟨w.heap.size, 0, none⟩) n n, .int .i64 0][i]? := fun i => by
    rw [← s1, World.cell?_alloc_at _ _ _ _ rfl]
  have fz := frozen_top w1 #[.slice (some ⟨w.heap.size, 0, none⟩) n n, .int .i64 0] 51
  rw [s1] at fz
  have hsz : (w1.alloc (.cells #[.slice (some ⟨w.heap.size, 0, none⟩) n n, .int .i64 0] 51)).heap.size = w1.heap.size + 1 := by simp
  refine ⟨⟨cell 0, cell 1, fz, hel.only o2 id, fun j => (o2.frozen (p := ⟨w.heap.size, j, none⟩) (by show w.heap.size < _; omega) id).trans (hfe j), by show w.heap.size ≠ w.heap.size + 1; omega, ⟨by show w.heap.size < _; omega, by show w.heap.size + 1 < _; omega⟩, by omega, hn⟩, b1.trans (b2.mono (by omega))⟩
/-- A clock made behind W0. -/
structure ClkB (W0 w : World) (c : Ck) (n : Nat) (E : Nat → El) (h : Nat) : Prop where
  is : ClkAt w c n E h
  fr : ∀ k, CF c k → W0.heap.size ≤ k
  bl : Below W0.heap.size W0 w
/-- A new clock. -/
def NewPost (n : Nat) (w : World) (e : Ending) (w' : World) : Prop :=
  ∃ c : Ck, e = .returned (.tuple #[.pointer (some ⟨c.t, 0, none⟩), .int .i64 0]) ∧ ClkB w w' c n E0 0
section
variable {W0 w w' : World} {c : Ck} {n h h' : Nat} {E E' : Nat → El} {u : Value} {e : Ending}
theorem ClkB.fresh (a : ClkB W0 w c n E h) (b : Below w.heap.size w w') : ClkB W0 w' c n E h := ⟨a.is.fresh b, a.fr, a.bl.trans (b.mono a.bl.size)⟩
theorem ClkB.drewN (a : ClkB W0 w c n E h) (q : Nat) : ClkB W0 (w.drewN q) c n E h := a.fresh (below_drewN (Below.refl _ _) q)
theorem ClkB.post (a : ClkB W0 w c n E h) (p : ClkPost u c n E' h' w e w') : e = .returned u ∧ ClkB W0 w' c n E' h' ∧ Only (CF c) w w' := by
  obtain ⟨rfl, a', o⟩ := p
  exact ⟨rfl, ⟨a', a.fr, a.bl.trans (o.below (B := W0.heap.size) (fun i hi hF => by have := a.fr i hF; omega) a.bl.size)⟩, o⟩
end
theorem new_no (n : Int) (w : World) (h : n < 0 ∨ 16384 < n) : Calls Try.prog 9 #[.int .i64 n] w (Told (.tuple #[.pointer none, .int .i64 2]) w) := by
  rcases h with h | h
  · go_enter Try.func9, Try.ntmps9
    go_wp2
    go_ret2
    exact ⟨rfl, rfl⟩
  · have h' : ¬ n < 0 := by omega
    go_enter Try.func9, Try.ntmps9
    go_wp2
    go_ret2
    exact ⟨rfl, rfl⟩
theorem new_yes (n : Nat) (w : World) (hn : n ≤ 16384) : Calls Try.prog 9 #[.int .i64 n] w (NewPost n w) := by
  have h1 : ¬ ((n : Int) < 0) := by omega
  have h2 : ¬ ((16384 : Int) < n) := by omega
  have hm := fun w => mk_els w n hn
  have s1 : (ew w n).heap.size = w.heap.size + 1 := by simp [ew]
  have HT := Lib.hid (new_clk w n hn)
  go_enter Try.func9, Try.ntmps9
  go_wp2_with fail
  go_ret2
  exact ⟨⟨w.heap.size, w.heap.size + 1⟩, rfl, HT.out.1, by rintro k (rfl | rfl) <;> (dsimp only; omega), HT.out.2⟩
end Go.Proofs.Ytechbageefmclaa
