/- The walk of the law ExtentSteps. No condition but that math/bits' table lies in memory as its text lays it. -/
import Derived.Test.YtkjpemgoiobeeaaDoorEFin
import Derived.Deep.CutRange
import Derived.Deep.CutBlock
namespace Go.Proofs.YtkjpemgoiobeeaaDoor.extentSteps
set_option maxRecDepth 1000000
open Go.ChangeShapes Go.WideShapes Go.ChangeAt Go.RowKit

/-- The kind of blocks in which the chapter's rows lie. -/
def NR (s : Sp) (told : Value) : Nat → Prop := fun b => ¬ s.F b ∧ told.ownBlock ≠ some b
def StI (s : Sp) (n B k : Nat) (L : List RV) (X : List Ext) (w wr : World) (rows told : Value) : Prop :=
  SpaceAt wr s n k (rowsOf L) ∧ RowsV (NR s told) wr rows L ∧ OwnX B wr told X ∧ (∀ x ∈ X, x.wf) ∧ X.length ≤ k ∧ Below w.heap.size w wr ∧ B ≤ wr.heap.size

set_option maxHeartbeats 8000000 in
theorem walk_known (w : World) (hT : Tab w) (h0 : 0 < w.heap.size) (n : Int) (v : Value) (len0 : Nat) (hv : DosZ w v len0) (h1 : 300 < n) (h2 : n ≤ 20000) :
    Calls Tryd.prog 3 #[.int .i64 n, v] w fun e w' => e = .returned (.bool true) ∧ Below w.heap.size w w' := by
  obtain ⟨a, c, rfl, _⟩ := hv
  have HK := Lib.hid (known_true w hT h0)
  have t1 : decide ((300 : Int) < n) = true := by simpa using h1
  clear hT
  go_enter Tryd.func3, Tryd.ntmps3
  go_wp2_with fail
  refine HK.out.mono ?_
  rintro e w1 ⟨rfl, hb⟩
  go_wp2_with fail
  go_ret
  exact ⟨rfl, hb⟩

set_option maxHeartbeats 8000000 in
theorem walk_bad (w : World) (hT : Tab w) (h0 : 0 < w.heap.size) (n : Int) (v : Value) (len0 : Nat) (hv : DosZ w v len0) (h1 : n < 0 ∨ 20000 < n) :
    Calls Tryd.prog 3 #[.int .i64 n, v] w fun e w' => e = .returned (.bool true) ∧ Below w.heap.size w w' := by
  have HL := Lib.hid (long_any v len0 w hv)
  obtain ⟨a, c, rfl, _⟩ := hv
  have HK := Lib.hid (known_true w hT h0)
  have HN := Lib.hid (enew_no n w h1)
  clear hT
  rcases h1 with h1 | h1
  · have t1 : decide ((300 : Int) < n) = false := by simp; omega
    have t2 : decide (n < 0) = true := by simpa using h1
    go_enter Tryd.func3, Tryd.ntmps3
    go_wp2_with fail
    refine HL.out.mono ?_
    rintro e w1 ⟨⟨b, rfl⟩, rfl⟩
    cases b
    · go_wp2_with fail
      refine HN.out.mono ?_
      rintro e w1 ⟨rfl, rfl⟩
      go_wp2_with fail
      refine HK.out.mono ?_
      rintro e w1 ⟨rfl, hb⟩
      go_wp2_with fail
      go_ret
      exact ⟨rfl, hb⟩
    · go_wp2_with fail
      refine HK.out.mono ?_
      rintro e w1 ⟨rfl, hb⟩
      go_wp2_with fail
      go_ret
      exact ⟨rfl, hb⟩
  · have t1 : decide ((300 : Int) < n) = true := by simp; omega
    have t2 : decide (n ≤ 20000) = false := by simp; omega
    have t3 : decide (n < 0) = false := by simp; omega
    have t4 : decide ((20000 : Int) < n) = true := by simpa using h1
    go_enter Tryd.func3, Tryd.ntmps3
    go_wp2_with fail
    refine HL.out.mono ?_
    rintro e w1 ⟨⟨b, rfl⟩, rfl⟩
    cases b
    · go_wp2_with fail
      refine HN.out.mono ?_
      rintro e w1 ⟨rfl, rfl⟩
      go_wp2_with fail
      refine HK.out.mono ?_
      rintro e w1 ⟨rfl, hb⟩
      go_wp2_with fail
      go_ret
      exact ⟨rfl, hb⟩
    · go_wp2_with fail
      refine HK.out.mono ?_
      rintro e w1 ⟨rfl, hb⟩
      go_wp2_with fail
      go_ret
      exact ⟨rfl, hb⟩
end Go.Proofs.YtkjpemgoiobeeaaDoor.extentSteps
