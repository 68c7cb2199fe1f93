/- What wide's own functions 'words' and 'fits' return: the words that stand in bytes; whether so many bytes are an object of that kind and size. -/
import Derived.Test.YtmaeoefimkppoaaVRen
namespace Go.Proofs.Ytmaeoefimkppoaa.Wd
open Go.ChangeShapes Go.WideShapes Go.ChangeAt Go.RowKit
set_option maxRecDepth 1000000

theorem mkI (w : World) (n : Nat) (hn : n ≤ 100000) : (Instr.makeSlice 30 (.int .i64 (n : Int)) (.int .i64 (n : Int))).run Try.prog w = .ok (.slice (some ⟨w.heap.size, 0, none⟩) n n) (w.alloc (.cells (madeCells (Value.int .i64 0).cells n) 3)) := by
  obtain ⟨i0, hi, hz0, hz1, hz2⟩ := info_parts Try.info3
  have h := run_make (P := Try.prog) w 30 3 i0 (.int .i64 0) Try.underlying30 hi hz0 .i64 .i64 (n : Int) (n : Int) (by omega) (by omega) (by rw [hz2]; omega) (by omega)
  rw [hz1, Nat.mul_one, show (n : Int).toNat = n by omega] at h
  exact h

/-- What stands in the numbers' block behind k rounds: the first k words. -/
def WdsInv (g q k : Nat) (xs : List Int) (w wr : World) : Prop :=
  (∀ j, j < k → wr.cell? ⟨g, j, none⟩ = some (.int .i64 (wd xs (4 * j)))) ∧ (∀ j, k ≤ j → j < q → wr.cell? ⟨g, j, none⟩ = some (.int .i64 0)) ∧ (∀ j, wr.frozen? ⟨g, j, none⟩ = false) ∧ Below g w wr
def WdsPost (xs : List Int) (w : World) (e : Ending) (w' : World) : Prop :=
  ∃ c, e = .returned (.slice (some ⟨w.heap.size, 0, none⟩) (ws xs).length c) ∧ RowI w' (.slice (some ⟨w.heap.size, 0, none⟩) (ws xs).length c) (ws xs) ∧ Below w.heap.size w w'

theorem made_cell (w : World) (n j : Nat) (h : j < n) : (w.alloc (.cells (madeCells (Value.int .i64 0).cells n) 3)).cell? ⟨w.heap.size, j, none⟩ = some (.int .i64 0) := by
  rw [World.cell?_alloc_at _ _ _ _ rfl]
  have e : madeCells (Value.int .i64 0).cells n = Array.replicate n (.int .i64 0) := by
    apply Array.ext
    · simp [size_madeCells, Value.cells]
    · intro i h1 h2
      simp [madeCells, Value.cells, Nat.mod_one]
  simp [e, h]
theorem made_frozen (w : World) (n j : Nat) : (w.alloc (.cells (madeCells (Value.int .i64 0).cells n) 3)).frozen? ⟨w.heap.size, j, none⟩ = false := by
  unfold World.frozen?
  rw [heap_alloc_new]
  simp
theorem wd_in (xs : List Int) (p : Nat) (h : Bytes xs) : -2147483648 ≤ wd xs p ∧ wd xs p ≤ 2147483647 := by
  have := acc_le h p 4
  unfold wd sgn
  split <;> omega
theorem ws_i64 (xs : List Int) (h : Bytes xs) : I64 (ws xs) := by
  intro n hn
  unfold ws at hn
  obtain ⟨i, _, rfl⟩ := List.mem_map.1 hn
  have := wd_in xs (4 * i) h
  omega

end Go.Proofs.Ytmaeoefimkppoaa.Wd
