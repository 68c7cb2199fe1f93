/- What Read, Write and Clear of package disk do. No condition but those that each statement names. -/
import Derived.Test.YtkjpemgoiobeeaaDoorDSec
namespace Go.Proofs.YtkjpemgoiobeeaaDoor
set_option maxRecDepth 1000000
open Go.ChangeShapes Go.WideShapes Go.ChangeAt Go.RowKit

theorem inB_one {n : Nat} {i : Int} : inB n [i] = decide (0 ≤ i ∧ i < n) := by simp [inB]
theorem check_one (m x n r c : Nat) (D : Nat → Int) (i : Int) (w : World) (h : DiskAt w m x n r c D) :
    Calls Tryd.prog 45 #[.pointer (some ⟨m, 0, none⟩), .slice (some ⟨w.heap.size, 0, none⟩) 1 1] (w.alloc (.cells #[.int .i64 i] 3)) fun e w' => e = .returned (.int .i64 (chk n [i])) ∧ DiskAt w' m x n r c D ∧ Below w.heap.size w w' :=
  (check_any (N := fun _ => True) m x n r c D _ [i] _ (h.fresh ((Below.refl _ _).alloc (Nat.le_refl _) _)) (one_ints w i trivial) (by simp)).mono
    fun e w' ⟨he, hw⟩ => ⟨he, by rw [← hw]; exact h.fresh ((Below.refl _ _).alloc (Nat.le_refl _) _), by rw [← hw]; exact (Below.refl _ _).alloc (Nat.le_refl _) _⟩

theorem read_nil (i : Int) (w : World) : Calls Tryd.prog 33 #[.pointer none, .int .i64 i] w fun e w' => e = .returned (.tuple #[.slice none 0 0, .int .i64 1]) ∧ Below w.heap.size w w' := by
  go_enter Tryd.func33, Tryd.ntmps33
  go_wp2_with (go_at_call 45; refine (dcheck_nil _ _).mono ?_; rintro e w' ⟨rfl, rfl⟩)
  go_ret2
  exact ⟨rfl, (Below.refl _ _).alloc (Nat.le_refl _) _⟩

theorem read_no (m x n r c : Nat) (D : Nat → Int) (i : Int) (w : World) (h : DiskAt w m x n r c D) (hi : ¬ (0 ≤ i ∧ i < n)) :
    Calls Tryd.prog 33 #[.pointer (some ⟨m, 0, none⟩), .int .i64 i] w fun e w' => e = .returned (.tuple #[.slice none 0 0, .int .i64 4]) ∧ Below w.heap.size w w' := by
  have hc := check_one m x n r c D i w h
  rw [chk_no (by rw [inB_one]; simpa using hi)] at hc
  have HC := Lib.hid hc
  clear hc h hi
  go_enter Tryd.func33, Tryd.ntmps33
  go_wp2_with (go_at_call 45; refine HC.out.mono ?_; rintro e w' ⟨rfl, _, hb⟩)
  go_ret2
  exact ⟨rfl, hb⟩

/-- A count goes up. -/
theorem DiskAt.read1 {w : World} {m x n r c : Nat} {D : Nat → Int} (h : DiskAt w m x n r c D) : DiskAt (w.setCell ⟨m, 0, none⟩ (.int .i64 ((r : Int) + 1))) m x n (r + 1) c D := by
  have ha := h.apart
  refine ⟨?_, ?_, ?_, fun j hj => ?_, fun j => ?_, fun j => ?_, h.apart, h.small, h.rng, by simpa [World.setCell] using h.mlt, by simpa [World.setCell] using h.xlt⟩
  · rw [World.cell?_setCell_same _ _ _ h.reads]; rfl
  · rw [World.cell?_setCell_other _ _ _ _ (by simp)]; exact h.writes
  · rw [World.cell?_setCell_other _ _ _ _ (by simp)]; exact h.row
  · rw [World.cell?_setCell_other _ _ _ _ (by intro e; injection e; omega)]; exact h.byte j hj
  · rw [World.frozen?_setCell]; exact h.thaw j
  · rw [World.frozen?_setCell]; exact h.thaw' j
theorem DiskAt.write1 {w : World} {m x n r c : Nat} {D : Nat → Int} (h : DiskAt w m x n r c D) : DiskAt (w.setCell ⟨m, 1, none⟩ (.int .i64 ((c : Int) + 1))) m x n r (c + 1) D := by
  have ha := h.apart
  refine ⟨?_, ?_, ?_, fun j hj => ?_, fun j => ?_, fun j => ?_, h.apart, h.small, h.rng, by simpa [World.setCell] using h.mlt, by simpa [World.setCell] using h.xlt⟩
  · rw [World.cell?_setCell_other _ _ _ _ (by simp)]; exact h.reads
  · rw [World.cell?_setCell_same _ _ _ h.writes]; rfl
  · rw [World.cell?_setCell_other _ _ _ _ (by simp)]; exact h.row
  · rw [World.cell?_setCell_other _ _ _ _ (by intro e; injection e; omega)]; exact h.byte j hj
  · rw [World.frozen?_setCell]; exact h.thaw j
  · rw [World.frozen?_setCell]; exact h.thaw' j

theorem own_lower {w : World} {base base' n : Nat} {e : TypeId} {v : Value} {xs : List Value} (h : w.ownsRow base e 1 v n xs) (hb : base' ≤ base) : w.ownsRow base' e 1 v n xs :=
  ⟨h.1, h.2.imp id fun ⟨g, cap, cur, h1, h2, h3⟩ => ⟨g, cap, cur, h1, Nat.le_trans hb h2, h3⟩⟩

/-- What a read that may be leaves: new bytes, the sector's, and a count that went up. -/
def ReadPost (m x n r c : Nat) (D : Nat → Int) (i : Nat) (w : World) (e : Ending) (w' : World) : Prop :=
  ∃ g cp, e = .returned (.tuple #[.slice (some ⟨g, 0, none⟩) 64 cp, .int .i64 0]) ∧ w'.ownsRow w.heap.size 5 1 (.slice (some ⟨g, 0, none⟩) 64 cp) 64 ((sec D i).map (Value.int .u8)) ∧ DiskAt w' m x n (r + 1) c D ∧ Only (· = m) w w'

set_option maxHeartbeats 1000000 in
theorem read_yes (m x n r c : Nat) (D : Nat → Int) (i : Nat) (w : World) (h : DiskAt w m x n r c D) (hi : i < n) (hr : r ≤ 4000000000000000000) :
    Calls Tryd.prog 33 #[.pointer (some ⟨m, 0, none⟩), .int .i64 i] w (ReadPost m x n r c D i w) := by
  have hc := check_one m x n r c D i w h
  rw [chk_yes (by rw [inB_one]; simpa using hi)] at hc
  have HC := Lib.hid hc
  clear hc h
  go_enter Tryd.func33, Tryd.ntmps33
  go_wp2_with fail
  refine HC.out.mono ?_
  rintro e w1 ⟨rfl, h1, hb1⟩
  have H2 := Lib.hid h1.read1
  have hrd := h1.reads
  have hth := h1.thaw' 0
  have hlt := h1.mlt
  have O2 : Hid (Only (· = m) w (w1.setCell ⟨m, 0, none⟩ (.int .i64 ((r : Int) + 1)))) :=
    show Only _ _ _ from Only.setCell (F := (· = m)) (Only.of_below hb1) ⟨m, 0, none⟩ (.inl rfl) _
  have HS := Lib.hid (sector_any m x n (r + 1) c D i _ H2.out hi)
  have hb := H2.out.sec hi
  have HL := Lib.hid (clone_any x (64 * i) 64 (sec D i) _ (by rw [sec_len]; exact hb) (by rw [sec_len]; omega) (by rw [sec_len]; omega))
  rw [sec_len] at HL
  clear hb h1 hb1 HC
  go_wp2_with fail
  refine HS.out.mono ?_
  rintro e w' ⟨rfl, rfl⟩
  go_wp2_with fail
  refine HL.out.mono ?_
  rintro e w' ⟨g, cp, rfl, hown, hbl⟩
  rw [sec_len] at hown
  have HO : Hid (w'.ownsRow w.heap.size 5 1 (.slice (some ⟨g, 0, none⟩) 64 cp) 64 ((sec D i).map (Value.int .u8))) := own_lower hown O2.out.size
  have HD := Lib.hid (H2.out.fresh hbl)
  have HX : Hid (Only (· = m) w w') := O2.out.then_ (Only.of_below (F := fun _ => False) hbl) (fun _ _ h => h.elim)
  clear hown hbl
  go_wp2
  go_ret2
  exact ⟨g, cp, rfl, HO.out, HD.out, HX.out⟩
end Go.Proofs.YtkjpemgoiobeeaaDoor
