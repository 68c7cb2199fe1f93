/- What the function places of package extent does. No condition but those that each statement names. -/
import Derived.Test.YtkjpemgoiobeeaaDoorELive
namespace Go.Proofs.YtkjpemgoiobeeaaDoor
set_option maxRecDepth 1000000
open Go.ChangeShapes Go.WideShapes Go.ChangeAt Go.RowKit

theorem Tryd.info3 : (Tryd.prog.info? 3).map (fun i => (i.zero, i.size, i.bytes)) = some (some (.int .i64 0), 1, 8) := by kernel_rfl
theorem mk_ints (w : World) (n : Nat) (hn : n ≤ 100000000) : (Instr.makeSlice 74 (.int .i64 (n : Int)) (.int .i64 (n : Int))).run Tryd.prog w = .ok (.slice (some ⟨w.heap.size, 0, none⟩) n n) (w.alloc (.cells (madeCells (Value.int .i64 0).cells n) 3)) := by
  obtain ⟨i0, hi, hz0, hz1, hz2⟩ := info_parts Tryd.info3
  have h := run_make (P := Tryd.prog) w 74 3 i0 (.int .i64 0) Tryd.underlying74 hi hz0 .i64 .i64 (n : Int) (n : Int) (by omega) (by omega) (by rw [hz2]; omega) (by omega)
  rw [hz1, Nat.mul_one, show ((n : Int)).toNat = n by omega] at h
  exact h
theorem made_int (w : World) (n j : Nat) (h : j < n) : (w.alloc (.cells (madeCells (Value.int .i64 0).cells n) 3)).cell? ⟨w.heap.size, j, none⟩ = some (.int .i64 0) := by
  rw [World.cell?_alloc_at _ _ _ _ rfl]
  show (madeCells #[Value.int .i64 0] n)[j]? = _
  rw [← Array.getElem?_toList, toList_madeCells_one, List.getElem?_replicate, if_pos h]

/-- The sectors of an extent. -/
def run (f n : Nat) : List Int := (List.range n).map fun j => ((f + j : Nat) : Int)
theorem run_len (f n : Nat) : (run f n).length = n := by simp [run]
theorem run_get (f n j : Nat) (h : j < n) : (run f n)[j]? = some ((f + j : Nat) : Int) := by simp [run, h]

def PlacesPost (f n : Nat) (w : World) (e : Ending) (w' : World) : Prop :=
  ∃ g, e = .returned (.slice (some ⟨g, 0, none⟩) n n) ∧ w.heap.size ≤ g ∧ g < w'.heap.size ∧ Ints (· = g) w' (.slice (some ⟨g, 0, none⟩) n n) (run f n) ∧ Below w.heap.size w w'

def PlInv (p f k n : Nat) (w wr : World) : Prop :=
  (∀ j, j < n → wr.cell? ⟨p + 1, j, none⟩ = some (.int .i64 (if j < k then ((f + j : Nat) : Int) else 0))) ∧ (∀ j, wr.frozen? ⟨p + 1, j, none⟩ = false) ∧ wr.cell? ⟨p, 0, none⟩ = some (.int .i64 f) ∧ Below p w wr ∧ p + 1 < wr.heap.size

theorem PlInv.step {p f k n : Nat} {w wr : World} (h : PlInv p f k n w wr) (hk : k < n) : PlInv p f (k + 1) n w (wr.setCell ⟨p + 1, k, none⟩ (.int .i64 ((f : Int) + k))) := by
  obtain ⟨h1, h2, h3, h4, h5⟩ := h
  refine ⟨fun j hj => ?_, fun j => by rw [World.frozen?_setCell]; exact h2 j, ?_, ?_, by simpa [World.setCell] using h5⟩
  · by_cases e : j = k
    · subst e
      rw [World.cell?_setCell_same _ _ _ (h1 j hj), if_pos (by omega)]
      rfl
    · rw [World.cell?_setCell_other _ _ _ _ (by intro e'; injection e'; omega), h1 j hj]
      by_cases e2 : j < k
      · rw [if_pos e2, if_pos (by omega)]
      · rw [if_neg e2, if_neg (by omega)]
  · rw [World.cell?_setCell_other _ _ _ _ (by intro e'; injection e'; omega)]; exact h3
  · exact h4.setCell (by show p ≤ p + 1; omega) _

set_option maxHeartbeats 1000000 in
theorem places_any (f n : Nat) (sz : Int) (w : World) (hn : n ≤ 100000) (hf : f ≤ 1000000) :
    Calls Tryd.prog 32 #[.agg #[.int .i64 f, .int .i64 n, .int .i64 sz]] w (PlacesPost f n w) := by
  have hm := mk_ints (w.alloc (.cells #[.int .i64 f, .int .i64 n, .int .i64 sz] 32)) n (by omega)
  have hI : PlInv w.heap.size f 0 n w ((w.alloc (.cells #[.int .i64 f, .int .i64 n, .int .i64 sz] 32)).alloc (.cells (madeCells (Value.int .i64 0).cells n) 3)) := by
    refine ⟨fun j hj => ?_, fun j => ?_, ?_, ((Below.refl _ _).alloc (Nat.le_refl _) _).alloc (by simp) _, by simp⟩
    · have := made_int (w.alloc (.cells #[.int .i64 f, .int .i64 n, .int .i64 sz] 32)) n j hj
      rw [World.size_alloc] at this
      rw [this, if_neg (by omega)]
    · have := frozen_top (w.alloc (.cells #[.int .i64 f, .int .i64 n, .int .i64 sz] 32)) (madeCells (Value.int .i64 0).cells n) 3 j
      rwa [World.size_alloc] at this
    · rw [World.cell?_alloc_lt _ _ _ (by simp), World.cell?_alloc_at _ _ _ _ rfl]; rfl
  rw [World.size_alloc] at hm
  obtain ⟨p, hp⟩ : ∃ p, w.heap.size = p := ⟨_, rfl⟩
  have HP := Lib.hid hp
  have c1 : (w.alloc (.cells #[.int .i64 f, .int .i64 n, .int .i64 sz] 32)).cell? ⟨w.heap.size, 1, none⟩ = some (.int .i64 n) := by rw [World.cell?_alloc_at _ _ _ _ rfl]; rfl
  rw [hp] at hI hm c1
  have HI := Lib.hid hI
  clear hI
  go_enter Tryd.func32, Tryd.ntmps32
  go_wp2
  go_loopw [10] (fun i wr => ∃ k : Nat, k ≤ n ∧ i = .int .i64 k ∧ PlInv p f k n w wr) (fun i _ => n - (intOf i).toNat)
  case atStart => exact ⟨0, Nat.zero_le _, rfl, HI.out⟩
  case round =>
    obtain ⟨k, hk, rfl, hinv⟩ := hrel
    by_cases hlt : k < n
    · have HS := Lib.hid (hinv.step hlt)
      obtain ⟨h1, h2, h3, _, _⟩ := hinv
      have h1 := h1 k hlt
      have h2 := h2 k
      rw [if_neg (Nat.lt_irrefl k)] at h1
      go_wp2
      go_roundw
      case rel => exact ⟨k + 1, by omega, by go_num, HS.out⟩
      case measure => simp [intOf]; omega
    · obtain rfl : k = n := by omega
      have HS := Lib.hid hinv
      clear hinv
      go_wp2
      go_ret
      obtain ⟨h1, h2, h3, h4, h5⟩ := HS.out
      have hp := HP.out
      refine ⟨p + 1, rfl, by omega, h5, ⟨_, k, by simp [run_len], by simp [run_len], .inr ⟨p + 1, 0, rfl, rfl, fun j u hu => ?_⟩⟩, by rw [hp]; exact h4⟩
      rw [List.getElem?_map] at hu
      by_cases hj : j < k
      · rw [run_get _ _ _ hj] at hu
        rw [Nat.zero_add, h1 j hj, if_pos hj]
        exact hu
      · rw [List.getElem?_eq_none (by rw [run_len]; omega)] at hu
        cases hu
end Go.Proofs.YtkjpemgoiobeeaaDoor
